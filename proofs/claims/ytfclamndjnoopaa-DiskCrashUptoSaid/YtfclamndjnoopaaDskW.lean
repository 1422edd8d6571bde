/- DiskCrash, walked. -/
import Derived.Test.YtfclamndjnoopaaDskV
import Derived.Deep.DeepCutAuto
import Derived.Lib.Bytes
namespace Go.Proofs.Ytfclamndjnoopaa
open Go.RowKit Go.Lib
set_option maxRecDepth 100000

/-- Power and disk behind so many writes. -/
structure RunC (w : World) (pb db : Nat) (k : Nat) (S : PSt) (D : DSt) (F : List Nat) (w' : World) : Prop where
  r : Rack w' pb S [D] F
  c : Calm S k
  n : D.n = 8 ∧ D.failed = false ∧ D.db = db
  l : ∀ k ∈ F, w.heap.size ≤ k
  f : Frm [] w w'
theorem RunC.wr {w wr w' : World} {pb db k : Nat} {S : PSt} {D : DSt} {F : List Nat} (h : RunC w pb db k S D F wr) {at_ : Int} {bs : List Int} (hl : Left wr pb F (S.wr D at_ bs) [D.wr S at_ bs] w') : ∃ F', RunC w pb db (k + 8) (S.wr D at_ bs) (D.wr S at_ bs) F' w' := by
  obtain ⟨F', hr, hs⟩ := hl
  obtain ⟨hf, hl'⟩ := stp_new h.f h.l hs
  have hc := Calm.wr (at_ := at_) (bs := bs) h.c h.n.2.1
  rw [h.n.1] at hc
  exact ⟨F', hr, hc, ⟨h.n.1, h.n.2.1, h.n.2.2⟩, hl', hf⟩
theorem RunC.kept {w wr w' : World} {pb db k : Nat} {S : PSt} {D : DSt} {F : List Nat} (h : RunC w pb db k S D F wr) (hf : Frm [] wr w') : RunC w pb db k S D F w' := ⟨h.r.kept hf (by simp), h.c, h.n, h.l, h.f.trans hf (by simp)⟩
theorem rest_all {w : World} {pb : Nat} {S : PSt} {D : DSt} {F : List Nat} (h : Rack w pb S [D] F) : restW D.db S.ws = [] := by
  obtain ⟨q, c, hr, rfl⟩ := h
  unfold restW
  rw [List.filter_eq_nil_iff]
  intro x hx
  obtain ⟨_, i, E, hi, hxd, _⟩ := hr.wt x hx
  cases i with
  | zero => simp at hi; subst hi; simp [hxd]
  | succ i => simp at hi
def rowsK (ks : List OpS) : List Value := ks.flatMap OpS.row
theorem rowsK_app (a b : List OpS) : rowsK (a ++ b) = rowsK a ++ rowsK b := by simp [rowsK]
theorem rowsK_length : ∀ (ks : List OpS), (rowsK ks).length = ks.length * 6 := by
  intro ks
  induction ks with
  | nil => rfl
  | cons d ks ih => rw [show rowsK (d :: ks) = d.row ++ rowsK ks from rfl, List.length_append, ih]; simp [OpS.row]; omega
/-- Where the law stands between its writes: power and disk, what was written so far, and the bytes that were flushed. -/
structure InC (w : World) (pb db k : Nat) (S : PSt) (D : DSt) (F : List Nat) (ks : List OpS) (kp : Option Addr) (kn kc gB : Nat) (P : List Int) (w' : World) : Prop where
  run : RunC w pb db k S D F w'
  pl : D.plat = P
  ops : ∀ d ∈ ks, OpIn w 1048576 d ∧ 0 ≤ d.at_ ∧ d.at_ ≤ 8
  own : w'.ownsRow 0 41 6 (.slice kp kn kc) kn (rowsK ks)
  lo : ∀ i ∈ blk kp, w.heap.size ≤ i ∧ i ∉ F ∧ i ≠ gB
  len : ks.length = kn
  gb : w'.heap[gB]? = some (.cells (bv P).toArray 5 (0, 0))
  gf : gB ∉ F ∧ w.heap.size ≤ gB
theorem InC.kept {w wr w' : World} {pb db k : Nat} {S : PSt} {D : DSt} {F : List Nat} {ks : List OpS} {kp : Option Addr} {kn kc gB : Nat} {P : List Int} (h : InC w pb db k S D F ks kp kn kc gB P wr) (hf : Frm [] wr w') : InC w pb db k S D F ks kp kn kc gB P w' :=
  ⟨h.run.kept hf, h.pl, h.ops, ownsRow_kept h.own hf (by simp), h.lo, h.len, hf.heap h.gb (by simp), h.gf⟩
theorem InC.wr {w wr w' : World} {pb db k : Nat} {S : PSt} {D : DSt} {F : List Nat} {ks : List OpS} {kp : Option Addr} {kn kc gB : Nat} {P : List Int} (h : InC w pb db k S D F ks kp kn kc gB P wr) {at_ : Int} {bs : List Int} (hl : Left wr pb F (S.wr D at_ bs) [D.wr S at_ bs] w') : ∃ F', InC w pb db (k + 8) (S.wr D at_ bs) (D.wr S at_ bs) F' ks kp kn kc gB P w' := by
  obtain ⟨F', hr, hs⟩ := hl
  obtain ⟨hf, hl'⟩ := stp_new h.run.f h.run.l hs
  have hc := Calm.wr (at_ := at_) (bs := bs) h.run.c h.run.n.2.1
  rw [h.run.n.1] at hc
  refine ⟨F', ⟨hr, hc, ⟨h.run.n.1, h.run.n.2.1, h.run.n.2.2⟩, hl', hf⟩, h.pl, h.ops, ownsRow_kept h.own hs.fr (fun i hi => (h.lo i hi).2.1), fun i hi => ⟨(h.lo i hi).1, fun hm => (hs.nb i hm).elim (h.lo i hi).2.1 (fun h2 => by have := ownsRow_low h.own i hi; omega), (h.lo i hi).2.2⟩, h.len, hs.fr.heap h.gb h.gf.1, fun hm => (hs.nb _ hm).elim h.gf.1 (fun h2 => by have := lt_of_heap h.gb; omega), h.gf.2⟩
theorem InC.app {w wr w' : World} {pb db k : Nat} {S : PSt} {D : DSt} {F : List Nat} {ks : List OpS} {kp p2 : Option Addr} {kn kc c2 gB : Nat} {P : List Int} (h : InC w pb db k S D F ks kp kn kc gB P wr) {d : OpS} (hd : OpIn w 1048576 d ∧ 0 ≤ d.at_ ∧ d.at_ ≤ 8) (ho : w'.ownsRow 0 41 6 (.slice p2 (kn + 1) c2) (kn + 1) (rowsK ks ++ d.row)) (hf : Frm (blk kp) wr w') (hb : ∀ i ∈ blk p2, i ∈ blk kp ∨ wr.heap.size ≤ i) : InC w pb db k S D F (ks ++ [d]) p2 (kn + 1) c2 gB P w' := by
  have hrr := h.run.r.kept hf (fun i hi hm => (h.lo i hm).2.1 hi)
  refine ⟨⟨hrr, h.run.c, h.run.n, h.run.l, h.run.f.trans hf (fun i hi hl => by have := (h.lo i hi).1; omega)⟩, h.pl, ?_, ?_, ?_, ?_, ?_, h.gf⟩
  · intro x hx
    rcases List.mem_append.1 hx with h1 | h1
    · exact h.ops x h1
    · simp at h1; subst h1; exact hd
  · rw [rowsK_app, show rowsK [d] = d.row by simp [rowsK]]; exact ho
  · intro i hi
    rcases hb i hi with h1 | h1
    · exact h.lo i h1
    · have h2 := h.run.f.size
      exact ⟨by omega, fun hm => by have := h.run.r.low i hm; omega, fun e => by have := lt_of_heap h.gb; omega⟩
  · rw [List.length_append, h.len]; rfl
  · exact hf.heap h.gb (fun hm => (h.lo _ hm).2.2 rfl)
theorem infoO3 : (Try.prog.info? 41).map (fun i => (i.zero, i.size, i.bytes)) = some (some (.agg #[.int .i64 0, .int .i64 0, .int .i64 0, .int .i64 0, .slice none 0 0, .slice none 0 0]), 6, 80) := by kernel_rfl
theorem ownK_at {w : World} {ks : List OpS} {kp : Option Addr} {kn kc : Nat} (h : w.ownsRow 0 41 6 (.slice kp kn kc) kn (rowsK ks)) (hl : ks.length = kn) {i : Nat} {d : OpS} (hd : ks[i]? = some d) : ∃ gk, kp = some ⟨gk, 0, none⟩ ∧ w.rangeAt gk (i * 6) d.row := by
  obtain ⟨hi, rfl⟩ := List.getElem?_eq_some_iff.1 hd
  rcases h.2 with ⟨_, h0⟩ | ⟨g, c, cur, he, _, hg, hc, _, hs, ht⟩
  · omega
  · simp only [Value.slice.injEq] at he
    obtain ⟨rfl, _, rfl⟩ := he
    refine ⟨g, rfl, fun k v hv => ?_⟩
    have hk : k < 6 := by have := (List.getElem?_eq_some_iff.1 hv).1; simpa [OpS.row] using this
    rw [cell_of_row _ _ _ _ _ _ hg]
    have e : (rowsK ks)[i * 6 + k]? = some v := by
      have e1 : ks = ks.take i ++ ks[i] :: ks.drop (i + 1) := by rw [← List.drop_eq_getElem_cons hi, List.take_append_drop]
      have e2 : rowsK ks = rowsK (ks.take i) ++ (ks[i].row ++ rowsK (ks.drop (i + 1))) := by
        have h3 := congrArg rowsK e1
        rw [rowsK_app] at h3
        exact h3
      have e3 : (rowsK (ks.take i)).length = i * 6 := by rw [rowsK_length, List.length_take, Nat.min_eq_left (by omega)]
      rw [e2, List.getElem?_append_right (by omega), e3, show i * 6 + k - i * 6 = k by omega, List.getElem?_append_left (by simpa [OpS.row] using hk)]
      exact hv
    have hlt : i * 6 + k < kn * 6 := by omega
    rw [← ht, List.getElem?_take, if_pos hlt] at e
    simpa using e
/-- A sector says what a kept write says. -/
def Mt (w : World) (B : List Int) (s : Nat) (d : OpS) : Prop := ∃ bs, Rd w d.p bs ∧ bs.length = d.bl ∧ 0 ≤ (s : Int) - d.at_ ∧ (s : Int) - d.at_ < ((d.bl / 128 : Nat) : Int) ∧ strOfNums (sec B s) = strOfNums (sec bs ((s : Int) - d.at_).toNat)
theorem sec_told {w : World} {db : Nat} {P B : List Int} {S : PSt} {st : List Bool} {ks : List OpS} (hf : Fits db 8 S.ws) (hp : P.length = 1024) (hB : B = over db P (keptW st S.ws)) (hk : KeptRel w S.ws ks) (s : Nat) : strOfNums (sec B s) = strOfNums (sec P s) ∨ ∃ d ∈ ks, Mt w B s d := by
  rcases over_sec (keptW st S.ws) P (fun x hx => hf x (keptW_sub x hx)) (n := 8) (by rw [hp]) s with h | ⟨x, hx, _, hxa, hxb⟩
  · exact Or.inl (by rw [hB, h])
  · obtain ⟨d, hd, bs, i, hr, hl, hi, ha, hb⟩ := hk x (keptW_sub x hx)
    refine Or.inr ⟨d, hd, bs, hr, hl, by omega, by omega, ?_⟩
    rw [hB, hxb, hb, show ((s : Int) - d.at_).toNat = i by omega]
theorem strOfNums_toInj3 {xs ys : List Int} (h : (strOfNums xs).toList = (strOfNums ys).toList) : strOfNums xs = strOfNums ys := by
  rw [Lib.strOfNums_toList, Lib.strOfNums_toList] at h
  have h2 : (strOfNums xs).data.toList = (strOfNums ys).data.toList := h
  have h3 := Array.toList_inj.1 h2
  cases hs : strOfNums xs
  cases ht : strOfNums ys
  rw [hs, ht] at h3
  simp only at h3
  rw [h3]
theorem rd_uniq {w : World} {p : Option Addr} {a b : List Int} (ha : Rd w p a) (hb : Rd w p b) (hl : a.length = b.length) : a = b := by
  rcases ha with rfl | ⟨g, o, rfl, hc⟩
  · simp at hl; exact (List.eq_nil_of_length_eq_zero hl.symm).symm
  · rcases hb with rfl | ⟨g2, o2, he, hc2⟩
    · simp at hl; exact List.eq_nil_of_length_eq_zero (by simpa using hl)
    · simp at he
      obtain ⟨rfl, rfl⟩ := he
      apply List.ext_getElem hl
      intro i h1 h2
      have e := (hc i h1).symm.trans (hc2 i h2)
      simp only [Option.some.injEq, Value.int.injEq, true_and] at e
      simpa [List.getD_eq_getElem?_getD, h1, h2] using e
theorem str_ne {a b : List Int} (h : strOfNums a ≠ strOfNums b) : ((strOfNums a).toList == (strOfNums b).toList) = false := beq_false_of_ne (fun e => h (strOfNums_toInj3 e))
theorem conv_3 (w : World) (g n : Nat) (bs : List Int) (h : w.heap[g]? = some (.cells (bv bs).toArray 5 (0, 0))) (hn : bs.length = n) : (convert 22 9 (.slice (some ⟨g, 0, none⟩) n n)).run Try.prog w = .ok (.string (strOfNums bs)) w :=
  cv_any 22 5 9 Try.underlying22 Try.underlying5 Try.underlying9 (rd_blockD h) n hn
set_option maxHeartbeats 25600000 in
theorem crash_any (pf : Option Addr) (nf cf : Nat) (pw : Option Addr) (nw cw : Nat) (ps : Option Addr) (ns cs : Nat) (w : World) (hA : CameOps w 1048576 pf nf cf) (hB : CameOps w 1048576 pw nw cw) (hS : CameT w ps ns cs) (hns : ns ≤ 1048576) :
    Calls Try.prog 4 #[.slice pf nf cf, .slice pw nw cw, .slice ps ns cs] w fun e w' => e = .returned (.bool true) ∧ Frm [] w w' := by
  have HA := hid hA
  have HB := hid hB
  obtain ⟨hcs, _, st, hls, hrs⟩ := hS
  have HLS := hid hls
  have HRS := hid hrs
  have hnf : nf ≤ 1048576 := hA.2.2.1
  have hnw : nw ≤ 1048576 := hB.2.2.1
  have HPW := hid (fun w => rNew w)
  clear hA hB hls hrs
  go_enter Try.func4, Try.ntmps4
  go_wp2_with fail
  refine (awake3_any _).mono ?_
  rintro e w0 ⟨rfl, hf0⟩
  have HF0 := hid hf0
  clear hf0
  go_wp2_with fail
  refine (HPW.out _).mono ?_
  rintro e w1 ⟨pb, rfl, hr1, hf1, hl1⟩
  have HDN := hid (rDisk pb 8 PSt.new [] [pb] (by omega) (by omega) w1 hr1)
  have HF1 := hid (HF0.out.trans hf1 (by simp))
  have HL1 : Hid (∀ k ∈ [pb], w.heap.size ≤ k) := hid (by have := HF0.out.size; simp; omega)
  clear hr1 hf1 hl1 HPW HF0
  go_wp2_with fail
  refine HDN.out.mono ?_
  rintro e w2 ⟨D0, rfl, hn, hfl, hp, _, hnew, hr2, hf2⟩
  obtain ⟨db, hdb⟩ : ∃ b, D0.db = b := ⟨_, rfl⟩
  rw [hdb]
  have HST : Hid (∃ S D F, RunC w pb db (8 * 0) S D F w2) := hid ⟨PSt.new, D0, _, hr2, ⟨rfl, rfl, by simp [PSt.new], by simp [PSt.new]⟩, ⟨hn, hfl, hdb⟩, fun k hk => by
    rcases List.mem_append.1 hk with h | h
    · exact HL1.out k h
    · have := hnew k h; have := HF1.out.size; omega, HF1.out.trans hf2 (by simp)⟩
  clear hr2 hn hfl hp hnew hf2 HDN HF1 HL1 hdb
  go_wp2_with fail
  go_loopw [11] (fun i wr => ∃ j : Nat, j ≤ nf ∧ i = .int .i64 (j : Int) ∧ Hid (∃ S D F, RunC w pb db (8 * j) S D F wr)) (fun i _ => nf - (intOf i).toNat)
  case atStart => exact ⟨0, by omega, rfl, HST⟩
  case round =>
    clear HST
    obtain ⟨j, hj, rfl, hin⟩ := hrel
    obtain ⟨S, D, F, hrun⟩ := hin.out
    have HR := hid hrun
    clear hrun hin
    by_cases hlt : j < nf
    · have t1 : (j : Int) < (nf : Int) := by omega
      obtain ⟨g, o, rfl, hops⟩ : ∃ g o, pf = some ⟨g, o, none⟩ ∧ ∀ i, i < nf → ∃ d, w.rangeAt g (o + i * 6) (OpS.row d) ∧ OpIn w 1048576 d := by
        rcases HA.out.2.2.2 with h | h
        · omega
        · exact h
      obtain ⟨d, hrg, hop⟩ := hops j hlt
      have hrg' := range_kept hrg HR.out.f
      have a2 := hrg' 2 _ rfl
      have a4 := hrg' 4 _ rfl
      have HOP := hid hop
      clear hops hrg hrg' hop
      go_wp2_with fail
      go_still_tail 11, (by kernel_rfl)
      change wpList _ _ _ _ _ wr.drew
      obtain ⟨w3, hw3⟩ : ∃ W, wr.drew = W := ⟨_, rfl⟩
      have hfd : Frm [] wr w3 := by rw [← hw3]; exact (Frm.refl _ _).drew
      rw [hw3]
      have HR3 := hid (HR.out.kept hfd)
      obtain ⟨bs, hbl, hbr, hbz, _, hbc, _⟩ := HOP.out.2.2.2.2.1
      have HW := hid (rWrite pb S [D] F 0 D d.at_ d.p d.bc bs w3 HR3.out.r rfl HOP.out.2.2.1 (inB_arg hbr hbz HR3.out.f HR3.out.l) (by omega) (by have := HOP.out.2.2.2.2.2.1; omega) (by have := HR3.out.c.w; have := HR3.out.c.l; omega))
      rw [hbl, HR3.out.n.2.2] at HW
      clear hw3 hfd hbl hbr hbz hbc a2 a4 HOP HR
      go_wp2_with fail
      refine HW.out.mono ?_
      rintro e w4 ⟨rfl, hleft⟩
      obtain ⟨F4, hr4⟩ := HR3.out.wr hleft
      have HIN : Hid (∃ S D F, RunC w pb db (8 * (j + 1)) S D F w4) := hid ⟨_, _, F4, by rw [show 8 * (j + 1) = 8 * j + 8 by omega]; exact hr4⟩
      clear hleft hr4 HW HR3
      go_wp2_with fail
      go_roundw
      case rel => exact ⟨j + 1, by omega, by go_num, HIN⟩
      case measure => simp [intOf]; omega
    · obtain rfl : j = nf := by omega
      have HFL := hid (rFlush pb S [D] F 0 D wr HR.out.r rfl)
      rw [down_ok HR.out.c.o HR.out.n.2.1, HR.out.n.2.2] at HFL
      clear HA
      go_wp2_with fail
      refine HFL.out.mono ?_
      rintro e w3 ⟨rfl, F3, hr3, hs3⟩
      obtain ⟨hf3, hl3⟩ := stp_new HR.out.f HR.out.l hs3
      have hS3 : flS S D = S.rest D.db := by unfold flS; rw [if_pos (down_ok HR.out.c.o HR.out.n.2.1)]
      obtain ⟨d1, d2, d3⟩ := flD_n S D
      obtain ⟨S3, hS3'⟩ : ∃ T, flS S D = T := ⟨_, rfl⟩
      obtain ⟨D3, hD3⟩ : ∃ E, flD S D = E := ⟨_, rfl⟩
      have hr3' : Rack w3 pb S3 [D3] F3 := by rw [← hS3', ← hD3]; exact hr3
      have hws : S3.ws = [] := by rw [← hS3', hS3]; exact rest_all HR.out.r
      have HR3 : Hid (RunC w pb db (8 * j) S3 D3 F3 w3) := hid ⟨hr3', by rw [← hS3', hS3]; exact HR.out.c.rest _, by rw [← hD3, d1, d2, d3]; exact HR.out.n, hl3, hf3⟩
      have HPS : Hid (D3.seen = D3.plat) := hid (by have h := hr3'.inv (i := 0) (D := D3) rfl; rw [hws] at h; exact h)
      have HRD := hid (read_ok hr3' (i := 0) (D := D3) rfl HR3.out.c.o HR3.out.n.2.1 HR3.out.n.1)
      rw [HR3.out.n.2.2] at HRD
      have HWS := hid hws
      clear hr3 hs3 hf3 hl3 hS3 d1 d2 d3 hS3' hD3 hr3' hws HFL HR
      go_wp2_with fail
      refine HRD.out.mono ?_
      rintro e w4 ⟨gB, rfl, hg4, hh4, hf4⟩
      obtain ⟨P, hP⟩ : ∃ P, D3.plat = P := ⟨_, rfl⟩
      rw [HPS.out, hP] at hg4
      have HWT := hid (rWaiting pb S3 [D3] F3 w4 (HR3.out.r.kept hf4 (by simp)))
      rw [HWS.out] at HWT
      have HST : Hid (∃ S D F ks kp kn kc, kn ≤ 0 ∧ kp = none ∧ kc = 0 ∧ kn = 0 ∧ InC w pb db (8 * j + 8 * 0) S D F ks kp kn kc gB P w4 ∧ KeptRel w S.ws ks) := hid ⟨S3, D3, F3, [], none, 0, 0, Nat.le_refl _, rfl, rfl, rfl, ⟨HR3.out.kept hf4, hP, by simp, ⟨rfl, Or.inl ⟨rfl, rfl⟩⟩, by simp [blk], rfl, hg4, fun hm => by have := HR3.out.r.low _ hm; omega, by have := HR3.out.f.size; omega⟩, by rw [HWS.out]; intro x hx; simp at hx⟩
      clear hg4 hh4 hf4 hP HRD HPS HR3 HWS
      go_wp2_with fail
      refine HWT.out.mono ?_
      rintro e wq ⟨rfl, rfl⟩
      clear HWT
      go_wp2_with fail
      obtain ⟨S5, D5, F5, ks5, kp5, kn5, kc5, _, rfl, rfl, rfl, hin5, hrel5⟩ := HST.out
      have HST2 : Hid (InC w pb db (8 * j + 8 * 0) S5 D5 F5 ks5 none 0 0 gB P wq ∧ KeptRel w S5.ws ks5) := hid ⟨hin5, hrel5⟩
      clear hin5 hrel5 HST
      go_loopw [16, 17, 15] (fun i s17 s15 wr => ∃ (t : Nat) (S : PSt) (D : DSt) (F : List Nat) (ks : List OpS) (kp : Option Addr) (kn kc : Nat), t ≤ nw ∧ kn ≤ t ∧ i = .int .i64 (t : Int) ∧ s15 = .slice kp kn kc ∧ Hid (InC w pb db (8 * j + 8 * t) S D F ks kp kn kc gB P wr) ∧ Hid (KeptRel w S.ws ks)) (fun i _ _ _ => nw - (intOf i).toNat)
      case atStart => exact ⟨0, S5, D5, F5, ks5, none, 0, 0, by omega, by omega, rfl, rfl, hid HST2.out.1, hid HST2.out.2⟩
      case round =>
        clear HST2
        obtain ⟨t, S, D, F, ks, kp, kn, kc, ht, hkn, rfl, rfl, hin, hrel2⟩ := hrel
        have HK := hid hrel2.out
        have HI := hid hin.out
        clear hrel2 hin
        by_cases hlt : t < nw
        · have t1 : (t : Int) < (nw : Int) := by omega
          obtain ⟨g, o, rfl, hops⟩ : ∃ g o, pw = some ⟨g, o, none⟩ ∧ ∀ i, i < nw → ∃ d, w.rangeAt g (o + i * 6) (OpS.row d) ∧ OpIn w 1048576 d := by
            rcases HB.out.2.2.2 with h | h
            · omega
            · exact h
          obtain ⟨d, hrg, hop⟩ := hops t hlt
          have hrg' := range_kept hrg HI.out.run.f
          have a2 := hrg' 2 _ rfl
          have a4 := hrg' 4 _ rfl
          have HRG := hid hrg
          have HOP := hid hop
          clear hops hrg hrg' hop
          go_wp2_with fail
          go_still_tail 11, (by kernel_rfl)
          change wpList _ _ _ _ _ wr.drew
          obtain ⟨w3, hw3⟩ : ∃ W, wr.drew = W := ⟨_, rfl⟩
          have hfd : Frm [] wr w3 := by rw [← hw3]; exact (Frm.refl _ _).drew
          rw [hw3]
          have HI3 := hid (HI.out.kept hfd)
          obtain ⟨bs, hbl, hbr, hbz, _, hbc, _⟩ := HOP.out.2.2.2.2.1
          have HW := hid (rWrite pb S [D] F 0 D d.at_ d.p d.bc bs w3 HI3.out.run.r rfl HOP.out.2.2.1 (inB_arg hbr hbz HI3.out.run.f HI3.out.run.l) (by omega) (by have := HOP.out.2.2.2.2.2.1; omega) (by have := HI3.out.run.c.w; have := HI3.out.run.c.l; omega))
          rw [hbl, HI3.out.run.n.2.2] at HW
          have HBS : Hid (Rd w d.p bs ∧ bs.length = d.bl) := hid ⟨hbr, hbl⟩
          clear hw3 hfd hbl hbr hbz hbc a2 a4 HI
          go_wp2_with fail
          refine HW.out.mono ?_
          rintro e w4 ⟨rfl, hleft⟩
          obtain ⟨F4, hr4⟩ := HI3.out.wr hleft
          rw [show 8 * j + 8 * t + 8 = 8 * j + 8 * (t + 1) by omega] at hr4
          have HI4 := hid hr4
          rcases wr_unb (S := S) (D := D) (at_ := d.at_) (bs := bs) HI3.out.run.c.o HI3.out.run.c.b HI3.out.run.n.2.1 with ⟨e0, e1, _, z0, z1⟩ | ⟨e0, e1⟩
          · have HK4 : Hid (KeptRel w (S.wr D d.at_ bs).ws (ks ++ [d])) := hid (by rw [e1]; exact HK.out.wrote d bs HBS.out.1 HBS.out.2 z0)
            have HZ0 : Hid (0 ≤ d.at_ ∧ d.at_ ≤ 8) := hid ⟨z0, by rw [HI3.out.run.n.1] at z1; omega⟩
            rw [e0]
            have hrg4 := range_kept HRG.out HI4.out.run.f
            have a0 := hrg4 0 _ rfl
            have a1 := hrg4 1 _ rfl
            have a2 := hrg4 2 _ rfl
            have a3 := hrg4 3 _ rfl
            have a4 := hrg4 4 _ rfl
            have a5 := hrg4 5 _ rfl
            simp only [Nat.add_zero] at a0
            clear hleft hr4 HW HI3 e0 e1 z0 z1 HK HBS hrg4
            have hfa : Frm [] w4 (w4.alloc (.cells #[.int .i64 d.kind, .int .i64 d.disk, .int .i64 d.at_, .int .i64 d.many, .slice d.p d.bl d.bc, .slice d.sp d.sl d.sc] 41)) := (Frm.refl _ _).alloc _
            have HI5 := hid (HI4.out.kept hfa)
            have HOW : Hid ((w4.alloc (.cells #[.int .i64 d.kind, .int .i64 d.disk, .int .i64 d.at_, .int .i64 d.many, .slice d.p d.bl d.bc, .slice d.sp d.sl d.sc] 41)).ownsRow 0 41 6 (.slice kp kn kc) kn (rowsK ks)) := hid HI5.out.own
            have HRV : Hid (Rv (w4.alloc (.cells #[.int .i64 d.kind, .int .i64 d.disk, .int .i64 d.at_, .int .i64 d.many, .slice d.p d.bl d.bc, .slice d.sp d.sl d.sc] 41)) (some ⟨w4.heap.size, 0, none⟩) d.row) := hid (rv_block (heap_alloc_new w4 _))
            have HON : Hid (∀ u ∈ d.row, u.oneCell' = true) := hid (fun u hu => by
              simp only [OpS.row, List.mem_cons, List.not_mem_nil, or_false] at hu
              rcases hu with rfl | rfl | rfl | rfl | rfl | rfl <;> rfl)
            clear hfa
            go_wp2_with (at_builtin; refine wpList_appV rfl _ _ 38 rfl 41 6 80 _ Try.underlying38 infoO3 rfl (by decide) kp kn kc (rowsK ks) rfl HOW.out (some ⟨w4.heap.size, 0, none⟩) 1 1 d.row rfl rfl (by simp) HRV.out HON.out (by unfold maxLen; omega) (by omega) ?_)
            intro p2 c2 w6 ho6 hf6 hb6
            have HI6 := hid (HI5.out.app ⟨HOP.out, HZ0.out⟩ ho6.out hf6.out (fun i hi => by have := hb6.out i hi; simpa using this))
            clear ho6 hf6 hb6 HI5 HI4 HOW HRV HON a0 a1 a2 a3 a4 a5 HRG HOP
            go_wp2_with fail
            go_roundw
            case rel => exact ⟨t + 1, _, _, F4, ks ++ [d], p2, kn + 1, c2, by omega, by omega, by go_num, rfl, HI6, HK4⟩
            case measure => simp [intOf]; omega
          · have HK4 : Hid (KeptRel w (S.wr D d.at_ bs).ws ks) := hid (by rw [e1]; exact HK.out)
            rw [e0]
            clear hleft hr4 HW HI3 e0 e1 HK HBS HRG HOP
            go_wp2_with fail
            go_roundw
            case rel => exact ⟨t + 1, _, _, F4, ks, kp, kn, kc, by omega, by omega, by go_num, rfl, HI4, HK4⟩
            case measure => simp [intOf]; omega
        · obtain rfl : t = nw := by omega
          have HRD := hid (read_ok HI.out.run.r (i := 0) (D := D) rfl HI.out.run.c.o HI.out.run.n.2.1 HI.out.run.n.1)
          rw [HI.out.run.n.2.2] at HRD
          clear HB
          go_wp2_with fail
          refine HRD.out.mono ?_
          rintro e w3 ⟨gS, rfl, hg3, hh3, hf3⟩
          obtain ⟨Q, hQ⟩ : ∃ Q, D.seen = Q := ⟨_, rfl⟩
          rw [hQ] at hg3
          have HQ : Hid (Q = over db P S.ws ∧ Q.length = 1024 ∧ P.length = 1024) := hid (by
            have h := HI.out.run.r.inv (i := 0) (D := D) rfl
            have h2 := HI.out.run.r.disk (i := 0) (D := D) rfl
            rw [hQ, HI.out.pl, HI.out.run.n.2.2] at h
            exact ⟨h, by rw [← hQ, h2.sn, HI.out.run.n.1], by rw [← HI.out.pl, h2.pn, HI.out.run.n.1]⟩)
          have HI3 := hid (HI.out.kept hf3)
          have HGS : Hid (w3.heap[gS]? = some (.cells (bv Q).toArray 5 (0, 0)) ∧ gS ∉ F) := hid ⟨hg3, fun hm => by have := HI.out.run.r.low _ hm; omega⟩
          have HWT := hid (rWaiting pb S [D] F w3 HI3.out.run.r)
          obtain ⟨NW, hNW⟩ : ∃ n, S.ws.length = n := ⟨_, rfl⟩
          rw [hNW] at HWT
          have hNWb : NW ≤ 16777216 := by have := HI3.out.run.c.l; omega
          have HNW := hid hNW
          clear hg3 hh3 hf3 hQ HRD HI hNW
          go_wp2_with fail
          refine HWT.out.mono ?_
          rintro e wq ⟨rfl, rfl⟩
          go_wp2_with fail
          obtain ⟨A0, hA0⟩ : ∃ A, A = decide (NW ≤ ns) := ⟨_, rfl⟩
          have HA0 := hid hA0
          clear hA0
          go_loopw [20, 21, 22] (fun a n i wr => ∃ (u : Nat) (A N : Bool), u ≤ ns ∧ u ≤ NW ∧ a = .bool A ∧ n = .bool N ∧ i = .int .i64 (u : Int) ∧ Hid (A = (A0 && (st.take u).all id)) ∧ Hid (N = (st.take u).all (fun x => !x)) ∧ wr = wq) (fun _ _ i _ => ns - (intOf i).toNat)
          case atStart => exact ⟨0, A0, true, by omega, by omega, congrArg Value.bool HA0.out.symm, rfl, rfl, hid (by simp), hid (by simp), rfl⟩
          case round =>
            obtain ⟨u, A, N, hu1, hu2, rfl, rfl, rfl, hA, hN, rfl⟩ := hrel
            by_cases hlt1 : u < ns
            · have t1 : (u : Int) < (ns : Int) := by omega
              by_cases hlt2 : u < NW
              · have t2 : (u : Int) < (NW : Int) := by omega
                obtain ⟨x, hx⟩ : ∃ x, st[u]? = some x := ⟨_, List.getElem?_eq_getElem (by rw [HLS.out]; exact hlt1)⟩
                obtain ⟨g, o, rfl, hc⟩ : ∃ g o, ps = some ⟨g, o, none⟩ ∧ wr.cell? ⟨g, o + u, none⟩ = some (.bool x) := by
                  rcases HRS.out with e | ⟨g, o, rfl, hc⟩
                  · simp at e; subst e; simp at hx
                  · refine ⟨g, o, rfl, ?_⟩
                    have hcu := hc u (.bool x) (by rw [List.getElem?_map, hx]; rfl)
                    rw [HI3.out.run.f.cell (p := ⟨g, o + u, none⟩) (World.block_lt_of_cell? w _ hcu) (by simp)]
                    exact hcu
                have htk : st.take (u + 1) = st.take u ++ [x] := by
                  obtain ⟨h1, h2⟩ := List.getElem?_eq_some_iff.1 hx
                  rw [List.take_succ_eq_append_getElem h1, h2]
                have HA1 : Hid ((A && x) = (A0 && (st.take (u + 1)).all id)) := hid (by rw [hA.out, htk, List.all_append]; simp [Bool.and_assoc])
                have HN1 : Hid ((N && !x) = (st.take (u + 1)).all (fun x => !x)) := hid (by rw [hN.out, htk, List.all_append]; simp)
                clear hx htk hA hN
                cases A <;> cases N <;> cases x
                all_goals (
                  go_wp2_with fail
                  refine HWT.out.mono ?_
                  rintro e wq ⟨rfl, rfl⟩
                  go_wp2_with fail
                  go_roundw
                  case rel => exact ⟨u + 1, _, _, by omega, by omega, rfl, rfl, by go_num, HA1, HN1, trivial⟩
                  case measure => simp [intOf]; omega)
              · obtain rfl : u = NW := by omega
                have HEX : Hid (A = true → keptW st S.ws = S.ws) := hid (fun h => by
                  rw [h] at hA
                  have h1 := hA.out.symm
                  rw [Bool.and_eq_true, HA0.out] at h1
                  have h2 : u ≤ ns := by simpa using h1.1
                  refine keptW_all _ _ (by rw [HNW.out, HLS.out]; exact h2) (fun i hi => ?_)
                  rw [HNW.out] at hi
                  have h3 := List.all_eq_true.1 h1.2 (st.getD i false) (by
                    have hi2 : i < st.length := by rw [HLS.out]; omega
                    rw [List.getD_eq_getElem?_getD, List.getElem?_eq_getElem hi2]
                    exact List.mem_take_iff_getElem.2 ⟨i, by omega, rfl⟩)
                  simpa using h3)
                have HEN : Hid (N = true → keptW st S.ws = []) := hid (fun h => by
                  rw [h] at hN
                  have h1 := hN.out.symm
                  refine keptW_none _ _ (fun i hi => ?_)
                  rw [HNW.out] at hi
                  have h3 := List.all_eq_true.1 h1 (st.getD i false) (by
                    have hi2 : i < st.length := by rw [HLS.out]; omega
                    rw [List.getD_eq_getElem?_getD, List.getElem?_eq_getElem hi2]
                    exact List.mem_take_iff_getElem.2 ⟨i, by omega, rfl⟩)
                  simpa using h3)
                clear hA hN HA0
                go_wp2_with fail
                refine HWT.out.mono ?_
                rintro e wq ⟨rfl, rfl⟩
                have HUP := hid (rUp pb S [D] F ps st cs _ HI3.out.run.r (by
                  rcases HRS.out with h | ⟨g, o, rfl, hc⟩
                  · exact Or.inl h
                  · refine Or.inr ⟨g, o, rfl, fun i u hu => ?_⟩
                    rw [HI3.out.run.f.cell (p := ⟨g, o + i, none⟩) (World.block_lt_of_cell? w _ (hc i u hu)) (by simp)]
                    exact hc i u hu) (fun hne k hk hm => by
                  rcases HRS.out with h | ⟨g, o, rfl, hc⟩
                  · simp at h; exact hne h
                  · simp [blk] at hk
                    subst hk
                    have h0 : 0 < st.length := List.length_pos_iff.2 hne
                    have := World.block_lt_of_cell? w _ (hc 0 (.bool st[0]) (by simp [h0]))
                    have := HI3.out.run.l _ hm
                    simp at *
                    omega) (by rw [HLS.out]; omega))
                rw [HLS.out] at HUP
                clear HWT HNW
                go_wp2_with fail
                refine HUP.out.mono ?_
                rintro e w5 ⟨rfl, F5, hr5, hs5⟩
                obtain ⟨hf5, hl5⟩ := stp_new HI3.out.run.f HI3.out.run.l hs5
                have hr5' : Rack w5 pb S.up [DSt.up S st D] F5 := hr5
                obtain ⟨B, hB⟩ : ∃ B, (DSt.up S st D).seen = B := ⟨_, rfl⟩
                have hBe : B = over db P (keptW st S.ws) := by
                  rw [← hB]
                  show over D.db D.plat (keptW st S.ws) = _
                  rw [HI3.out.run.n.2.2, HI3.out.pl]
                have HBL : Hid (B.length = 1024) := hid (by rw [← hB, (hr5'.disk (i := 0) (D := DSt.up S st D) rfl).sn]; show D.n * 128 = 1024; rw [HI3.out.run.n.1])
                have HAB : Hid (A = true → B = Q) := hid (fun h => by rw [hBe, HEX.out h, HQ.out.1])
                have HNB : Hid (N = true → B = P) := hid (fun h => by rw [hBe, HEN.out h]; rfl)
                have HSEC : Hid (∀ s, strOfNums (sec B s) = strOfNums (sec P s) ∨ ∃ d ∈ ks, Mt w B s d) := hid (fun s => by
                  have hft : Fits db 8 S.ws := by
                    obtain ⟨q, c, hr, _⟩ := HI3.out.run.r
                    have h := hr.fits (i := 0) (D := D) rfl
                    rwa [HI3.out.run.n.2.2, HI3.out.run.n.1] at h
                  exact sec_told hft HQ.out.2.2 hBe HK.out s)
                have HRD := hid (read_ok hr5' (i := 0) (D := DSt.up S st D) rfl rfl HI3.out.run.n.2.1 HI3.out.run.n.1)
                rw [show (DSt.up S st D).db = db from HI3.out.run.n.2.2, hB] at HRD
                have HG5 : Hid (w5.heap[gB]? = some (.cells (bv P).toArray 5 (0, 0)) ∧ w5.heap[gS]? = some (.cells (bv Q).toArray 5 (0, 0)) ∧ w5.ownsRow 0 41 6 (.slice kp kn kc) kn (rowsK ks)) := hid ⟨hs5.fr.heap HI3.out.gb HI3.out.gf.1, hs5.fr.heap HGS.out.1 HGS.out.2, ownsRow_kept HI3.out.own hs5.fr (fun i hi => (HI3.out.lo i hi).2.1)⟩
                have HKS : Hid ((∀ d ∈ ks, OpIn w 1048576 d ∧ 0 ≤ d.at_ ∧ d.at_ ≤ 8) ∧ ks.length = kn) := hid ⟨HI3.out.ops, HI3.out.len⟩
                have HR5 := hid hr5'
                have HF5 := hid hf5
                have HPQ : Hid (P.length = 1024 ∧ Q.length = 1024) := hid ⟨HQ.out.2.2, HQ.out.2.1⟩
                clear hr5 hs5 hf5 hl5 hr5' hB hBe HUP HI3 HGS HQ HK HEX HEN HRS HLS
                go_wp2_with fail
                refine HRD.out.mono ?_
                rintro e w6 ⟨g6, rfl, hg6, hh6, hf6⟩
                have HF6 := hid (HF5.out.trans hf6 (by simp))
                have HG6 : Hid (w6.heap[gB]? = some (.cells (bv P).toArray 5 (0, 0)) ∧ w6.heap[gS]? = some (.cells (bv Q).toArray 5 (0, 0)) ∧ w6.ownsRow 0 41 6 (.slice kp kn kc) kn (rowsK ks) ∧ w6.heap[g6]? = some (.cells (bv B).toArray 5 (0, 0))) := hid ⟨hf6.heap HG5.out.1 (by simp), hf6.heap HG5.out.2.1 (by simp), ownsRow_kept HG5.out.2.2 hf6 (by simp), hg6⟩
                have hr6 := HR5.out.kept hf6 (by simp)
                have HWT := hid (rWaiting pb _ _ _ w6 hr6)
                have HON := hid (rOn pb _ _ _ w6 hr6)
                rw [show S.up.ws.length = 0 from rfl] at HWT
                rw [show S.up.out = false from rfl] at HON
                obtain ⟨sB, hsB⟩ : ∃ s, strOfNums B = s := ⟨_, rfl⟩
                obtain ⟨sP, hsP⟩ : ∃ s, strOfNums P = s := ⟨_, rfl⟩
                obtain ⟨sQ, hsQ⟩ : ∃ s, strOfNums Q = s := ⟨_, rfl⟩
                have e1 := conv_3 w6 g6 1024 B HG6.out.2.2.2 HBL.out
                have e2 := conv_3 w6 gB 1024 P HG6.out.1 HPQ.out.1
                have e3 := conv_3 w6 gS 1024 Q HG6.out.2.1 HPQ.out.2
                rw [hsB] at e1
                rw [hsP] at e2
                rw [hsQ] at e3
                have HSA : Hid (A = true → sQ = sB) := hid (fun h => by rw [← hsQ, ← hsB, HAB.out h])
                have HSN : Hid (N = true → sP = sB) := hid (fun h => by rw [← hsP, ← hsB, HNB.out h])
                clear hg6 hh6 hf6 hr6 hsB hsP hsQ HRD HR5 HF5 HG5 HAB HNB
                go_upto_region 31 with fail
                go_cut [199] from 159 to 199 (fun s wx => s = .bool false ∧ wx = w6)
                case first =>
                  cases A
                  · cases N
                    · go_wp2_with fail
                      refine HWT.out.mono ?_
                      rintro e wq ⟨rfl, rfl⟩
                      go_wp2_with fail
                      refine HON.out.mono ?_
                      rintro e wq ⟨rfl, rfl⟩
                      go_wp2_with fail
                      go_meet
                      case rel => exact ⟨rfl, rfl⟩
                    · obtain rfl := HSN.out rfl
                      go_wp2_with fail
                      refine HWT.out.mono ?_
                      rintro e wq ⟨rfl, rfl⟩
                      go_wp2_with fail
                      refine HON.out.mono ?_
                      rintro e wq ⟨rfl, rfl⟩
                      go_wp2_with fail
                      go_meet
                      case rel => exact ⟨rfl, rfl⟩
                  · obtain rfl := HSA.out rfl
                    cases N
                    · go_wp2_with fail
                      refine HWT.out.mono ?_
                      rintro e wq ⟨rfl, rfl⟩
                      go_wp2_with fail
                      refine HON.out.mono ?_
                      rintro e wq ⟨rfl, rfl⟩
                      go_wp2_with fail
                      go_meet
                      case rel => exact ⟨rfl, rfl⟩
                    · obtain rfl := HSN.out rfl
                      go_wp2_with fail
                      refine HWT.out.mono ?_
                      rintro e wq ⟨rfl, rfl⟩
                      go_wp2_with fail
                      refine HON.out.mono ?_
                      rintro e wq ⟨rfl, rfl⟩
                      go_wp2_with fail
                      go_meet
                      case rel => exact ⟨rfl, rfl⟩
                obtain ⟨rfl, hwc⟩ := hcut
                have hw6 := hwc.symm
                clear hwc
                subst hw6
                clear HSA HSN e1 e2 e3 HWT HON
                have HC0 : Hid (Frm [] w6 w6) := hid (Frm.refl _ _)
                have hgk := ownsRow_low HG6.out.2.2.1
                have HGK : Hid (∀ k ∈ blk kp, k < w6.heap.size) := hid hgk
                clear hgk
                go_wp2_with fail
                go_loopw [25, 26, 27, 28] (fun i s26 s27 s28 wr => ∃ s : Nat, s ≤ 8 ∧ i = .int .i64 (s : Int) ∧ Hid (Frm [] w6 wr)) (fun i _ _ _ _ => 8 - (intOf i).toNat)
                case atStart => exact ⟨0, by omega, rfl, HC0⟩
                case round =>
                  clear HC0
                  obtain ⟨s, hs, rfl, hfr⟩ := hrel
                  by_cases hlt8 : s < 8
                  · have ts : (s : Int) < 8 := by omega
                    have HX := hid (fun (W : World) (hf : Frm [] w6 W) => lsec_any g6 0 1024 1024 s B HBL.out (by omega) (by omega) (by omega) W (rd_blockD (hf.heap HG6.out.2.2.2 (by simp))))
                    have HY := hid (lsec_any gB 0 1024 1024 s P HPQ.out.1 (by omega) (by omega) (by omega) wr (rd_blockD (hfr.out.heap HG6.out.1 (by simp))))
                    have HXr := hid (HX.out wr hfr.out)
                    obtain ⟨G0, hG0⟩ : ∃ G : Bool, (G = true ∧ strOfNums (sec B s) = strOfNums (sec P s)) ∨ (G = false ∧ strOfNums (sec B s) ≠ strOfNums (sec P s)) := by
                      by_cases h : strOfNums (sec B s) = strOfNums (sec P s)
                      · exact ⟨true, Or.inl ⟨rfl, h⟩⟩
                      · exact ⟨false, Or.inr ⟨rfl, h⟩⟩
                    have HG0 := hid hG0
                    obtain ⟨xB, hxB⟩ : ∃ x, strOfNums (sec B s) = x := ⟨_, rfl⟩
                    obtain ⟨xP, hxP⟩ : ∃ x, strOfNums (sec P s) = x := ⟨_, rfl⟩
                    have hres : (xB.toList == xP.toList) = G0 := by
                      rcases hG0 with ⟨rfl, h⟩ | ⟨rfl, h⟩
                      · rw [← hxB, ← hxP, h]; simp
                      · rw [← hxB, ← hxP]; exact str_ne h
                    rw [hxB] at HXr
                    rw [hxP] at HY
                    have HXB := hid hxB
                    clear hG0 hxB hxP
                    go_wp2_with fail
                    refine HXr.out.mono ?_
                    rintro e wq ⟨rfl, rfl⟩
                    go_wp2_with fail
                    refine HY.out.mono ?_
                    rintro e wq ⟨rfl, rfl⟩
                    clear HXr HY
                    go_wp2_with fail
                    clear hres
                    have HW0 := hid hfr.out
                    clear hfr
                    go_loopw [26, 27, 28] (fun g i s28 wi => ∃ (k : Nat) (G : Bool), k ≤ kn ∧ g = .bool G ∧ i = .int .i64 (k : Int) ∧ Hid (G = false → strOfNums (sec B s) ≠ strOfNums (sec P s) ∧ ∀ m, m < k → ∀ d, ks[m]? = some d → ¬ Mt w B s d) ∧ Hid (Frm [] w6 wi)) (fun _ i _ _ => kn - (intOf i).toNat)
                    case atStart => exact ⟨0, G0, by omega, rfl, rfl, hid (fun h => ⟨HG0.out.elim (fun h2 => by rw [h2.1] at h; exact Bool.noConfusion h) (fun h2 => h2.2), fun m hm => by omega⟩), HW0⟩
                    case round =>
                      clear HW0 HG0
                      obtain ⟨k, G, hk, rfl, rfl, hG, hfi⟩ := hrel
                      by_cases hltk : k < kn
                      · have tk : (k : Int) < (kn : Int) := by omega
                        obtain ⟨d, hd⟩ : ∃ d, ks[k]? = some d := ⟨_, List.getElem?_eq_getElem (by rw [HKS.out.2]; exact hltk)⟩
                        obtain ⟨gk, rfl, hrow⟩ := ownK_at HG6.out.2.2.1 HKS.out.2 hd
                        obtain ⟨hop, hz0, hz1⟩ := HKS.out.1 d (List.mem_of_getElem? hd)
                        have hrow' := range_kept hrow hfi.out
                        have a2 := hrow' 2 _ rfl
                        have a4 := hrow' 4 _ rfl
                        obtain ⟨bs, hbl, hbr, hbz, _, hbc, _⟩ := hop.2.2.2.2.1
                        have hbl2 : d.bl ≤ 1048576 := hop.2.2.2.2.2.1
                        obtain ⟨M, hM⟩ : ∃ M, d.bl / 128 = M := ⟨_, rfl⟩
                        have hq1 : (d.bl : Int).tdiv 128 = (M : Int) := by rw [Int.tdiv_eq_ediv_of_nonneg (by omega)]; omega
                        have HM := hid hM
                        have HD := hid hd
                        have HBS : Hid (Rd w d.p bs ∧ bs.length = d.bl) := hid ⟨hbr, hbl⟩
                        have hMb : M ≤ 8192 := by omega
                        clear hrow hrow' hop hM hd hbr hbl hbz
                        have step : ¬ Mt w B s d → Hid (G = false → strOfNums (sec B s) ≠ strOfNums (sec P s) ∧ ∀ m, m < k + 1 → ∀ d, ks[m]? = some d → ¬ Mt w B s d) := fun hno => hid (fun h => ⟨(hG.out h).1, fun m hm e he => by
                          by_cases hmk : m < k
                          · exact (hG.out h).2 m hmk e he
                          · obtain rfl : m = k := by omega
                            have h5 := HD.out
                            rw [he] at h5
                            cases h5
                            exact hno⟩)
                        by_cases c1 : 0 ≤ (s : Int) - d.at_
                        case neg =>
                          have HG2 := step (fun ⟨_, _, _, h, _⟩ => c1 h)
                          clear step hG
                          go_wp2_with fail
                          go_roundw
                          case rel => exact ⟨k + 1, G, by omega, by rfl, by go_num, HG2, hfi⟩
                          case measure => simp [intOf]; omega
                        by_cases c2 : (s : Int) - d.at_ < (M : Int)
                        case neg =>
                          have HG2 := step (fun ⟨_, _, _, _, h, _⟩ => by rw [HM.out] at h; exact c2 h)
                          clear step hG
                          go_wp2_with fail
                          go_roundw
                          case rel => exact ⟨k + 1, G, by omega, by rfl, by go_num, HG2, hfi⟩
                          case measure => simp [intOf]; omega
                        cases G
                        case true =>
                          have HG2 : Hid (true = false → strOfNums (sec B s) ≠ strOfNums (sec P s) ∧ ∀ m, m < k + 1 → ∀ d, ks[m]? = some d → ¬ Mt w B s d) := hid (fun h => Bool.noConfusion h)
                          clear step hG
                          go_wp2_with fail
                          go_quiet (fail)
                          go_wp2_with fail
                          go_roundw
                          case rel => exact ⟨k + 1, true, by omega, by rfl, by go_num, HG2, by first | exact hid hfi.out.drew | exact hid (hfi.out.drewN _) | exact hfi⟩
                          case measure => simp [intOf]; omega
                        case false =>
                          obtain ⟨n0, hn0⟩ : ∃ n0 : Nat, (s : Int) - d.at_ = (n0 : Int) := ⟨((s : Int) - d.at_).toNat, by omega⟩
                          obtain ⟨g2, o2, hp2, hrd2⟩ : ∃ g2 o2, d.p = some ⟨g2, o2, none⟩ ∧ Rd w (some ⟨g2, o2, none⟩) bs := by
                            rcases HBS.out.1 with h | ⟨g2, o2, h1, h2⟩
                            · have h3 := HBS.out.2
                              have h4 := HM.out
                              rw [h] at h3
                              simp at h3
                              omega
                            · exact ⟨g2, o2, h1, Or.inr ⟨g2, o2, rfl, h2⟩⟩
                          have HXd := hid (fun n => HX.out (wr.drewN n) (hfi.out.drewN n))
                          have HZd := hid (fun n => lsec_any g2 o2 d.bl d.bc n0 bs HBS.out.2 (by have := HM.out; omega) hbc (by omega) (wr.drewN n) (hrd2.kept (HF6.out.trans (hfi.out.drewN n) (by simp)) (by simp)))
                          rw [← hn0] at HZd
                          obtain ⟨G1, hG1⟩ : ∃ G1 : Bool, (G1 = true ∧ strOfNums (sec B s) = strOfNums (sec bs n0)) ∨ (G1 = false ∧ strOfNums (sec B s) ≠ strOfNums (sec bs n0)) := by
                            by_cases h : strOfNums (sec B s) = strOfNums (sec bs n0)
                            · exact ⟨true, Or.inl ⟨rfl, h⟩⟩
                            · exact ⟨false, Or.inr ⟨rfl, h⟩⟩
                          have HG2 : Hid (G1 = false → strOfNums (sec B s) ≠ strOfNums (sec P s) ∧ ∀ m, m < k + 1 → ∀ d, ks[m]? = some d → ¬ Mt w B s d) := hid (fun h => by
                            rcases hG1 with ⟨h1, _⟩ | ⟨_, h2⟩
                            · rw [h1] at h; exact Bool.noConfusion h
                            · refine (step (fun ⟨bs2, hr2, hl2, _, _, he2⟩ => ?_)).out rfl
                              rw [rd_uniq hr2 HBS.out.1 (hl2.trans HBS.out.2.symm), hn0, Int.toNat_natCast] at he2
                              exact h2 he2)
                          obtain ⟨xZ, hxZ⟩ : ∃ x, strOfNums (sec bs n0) = x := ⟨_, rfl⟩
                          have hres2 : (xB.toList == xZ.toList) = G1 := by
                            rw [← HXB.out, ← hxZ]
                            rcases hG1 with ⟨rfl, h⟩ | ⟨rfl, h⟩
                            · rw [h]; simp
                            · exact str_ne h
                          rw [HXB.out] at HXd
                          rw [hxZ] at HZd
                          rw [hp2] at a4
                          clear step hG hG1 hxZ hn0 hrd2 hp2 HBS
                          go_wp2_with fail
                          go_quiet ((go_at_call 18; first | (with_reducible exact Calls.quiet_of_same (HXd.out _)) | (with_reducible exact Calls.quiet_of_same (HZd.out _))))
                          go_wp2_with fail
                          go_roundw
                          case rel => exact ⟨k + 1, G1, by omega, by rfl, by go_num, HG2, by first | exact hid hfi.out.drew | exact hid (hfi.out.drewN _) | exact hfi⟩
                          case measure => simp [intOf]; omega
                      · obtain rfl : k = kn := by omega
                        have hGt : G = true := by
                          cases G
                          · exfalso
                            obtain ⟨h1, h2⟩ := hG.out rfl
                            rcases HSEC.out s with h3 | ⟨d, hd, hm⟩
                            · exact h1 h3
                            · obtain ⟨m, hm2⟩ := List.mem_iff_getElem?.1 hd
                              exact h2 m (by have h4 := (List.getElem?_eq_some_iff.1 hm2).1; rw [HKS.out.2] at h4; exact h4) d hm2 hm
                          · rfl
                        subst hGt
                        clear hG
                        go_wp2_with fail
                        go_roundw
                        case rel => exact ⟨s + 1, by omega, by go_num, hfi⟩
                        case measure => simp [intOf]; omega
                  · obtain rfl : s = 8 := by omega
                    go_wp2_with fail
                    go_returns
                    exact ⟨rfl, HF6.out.trans hfr.out (by simp)⟩
            · obtain rfl : u = ns := by omega
              have HEX : Hid (A = true → keptW st S.ws = S.ws) := hid (fun h => by
                rw [h] at hA
                have h1 := hA.out.symm
                rw [Bool.and_eq_true, HA0.out] at h1
                have h2 : NW ≤ u := by simpa using h1.1
                refine keptW_all _ _ (by rw [HNW.out, HLS.out]; exact h2) (fun i hi => ?_)
                rw [HNW.out] at hi
                have h3 := List.all_eq_true.1 h1.2 (st.getD i false) (by
                  have hi2 : i < st.length := by rw [HLS.out]; omega
                  rw [List.getD_eq_getElem?_getD, List.getElem?_eq_getElem hi2]
                  exact List.mem_take_iff_getElem.2 ⟨i, by omega, rfl⟩)
                simpa using h3)
              have HEN : Hid (N = true → keptW st S.ws = []) := hid (fun h => by
                rw [h] at hN
                have h1 := hN.out.symm
                refine keptW_none _ _ (fun i hi => ?_)
                by_cases hi2 : i < st.length
                · have h3 := List.all_eq_true.1 h1 (st.getD i false) (by
                    rw [List.getD_eq_getElem?_getD, List.getElem?_eq_getElem hi2]
                    exact List.mem_take_iff_getElem.2 ⟨i, by rw [HLS.out] at hi2 ⊢; omega, rfl⟩)
                  simpa using h3
                · rw [List.getD_eq_getElem?_getD, List.getElem?_eq_none (by omega)]; rfl)
              clear hA hN HA0
              have HUP := hid (rUp pb S [D] F ps st cs _ HI3.out.run.r (by
                rcases HRS.out with h | ⟨g, o, rfl, hc⟩
                · exact Or.inl h
                · refine Or.inr ⟨g, o, rfl, fun i u hu => ?_⟩
                  rw [HI3.out.run.f.cell (p := ⟨g, o + i, none⟩) (World.block_lt_of_cell? w _ (hc i u hu)) (by simp)]
                  exact hc i u hu) (fun hne k hk hm => by
                rcases HRS.out with h | ⟨g, o, rfl, hc⟩
                · simp at h; exact hne h
                · simp [blk] at hk
                  subst hk
                  have h0 : 0 < st.length := List.length_pos_iff.2 hne
                  have := World.block_lt_of_cell? w _ (hc 0 (.bool st[0]) (by simp [h0]))
                  have := HI3.out.run.l _ hm
                  simp at *
                  omega) (by rw [HLS.out]; omega))
              rw [HLS.out] at HUP
              clear HWT HNW
              go_wp2_with fail
              refine HUP.out.mono ?_
              rintro e w5 ⟨rfl, F5, hr5, hs5⟩
              obtain ⟨hf5, hl5⟩ := stp_new HI3.out.run.f HI3.out.run.l hs5
              have hr5' : Rack w5 pb S.up [DSt.up S st D] F5 := hr5
              obtain ⟨B, hB⟩ : ∃ B, (DSt.up S st D).seen = B := ⟨_, rfl⟩
              have hBe : B = over db P (keptW st S.ws) := by
                rw [← hB]
                show over D.db D.plat (keptW st S.ws) = _
                rw [HI3.out.run.n.2.2, HI3.out.pl]
              have HBL : Hid (B.length = 1024) := hid (by rw [← hB, (hr5'.disk (i := 0) (D := DSt.up S st D) rfl).sn]; show D.n * 128 = 1024; rw [HI3.out.run.n.1])
              have HAB : Hid (A = true → B = Q) := hid (fun h => by rw [hBe, HEX.out h, HQ.out.1])
              have HNB : Hid (N = true → B = P) := hid (fun h => by rw [hBe, HEN.out h]; rfl)
              have HSEC : Hid (∀ s, strOfNums (sec B s) = strOfNums (sec P s) ∨ ∃ d ∈ ks, Mt w B s d) := hid (fun s => by
                have hft : Fits db 8 S.ws := by
                  obtain ⟨q, c, hr, _⟩ := HI3.out.run.r
                  have h := hr.fits (i := 0) (D := D) rfl
                  rwa [HI3.out.run.n.2.2, HI3.out.run.n.1] at h
                exact sec_told hft HQ.out.2.2 hBe HK.out s)
              have HRD := hid (read_ok hr5' (i := 0) (D := DSt.up S st D) rfl rfl HI3.out.run.n.2.1 HI3.out.run.n.1)
              rw [show (DSt.up S st D).db = db from HI3.out.run.n.2.2, hB] at HRD
              have HG5 : Hid (w5.heap[gB]? = some (.cells (bv P).toArray 5 (0, 0)) ∧ w5.heap[gS]? = some (.cells (bv Q).toArray 5 (0, 0)) ∧ w5.ownsRow 0 41 6 (.slice kp kn kc) kn (rowsK ks)) := hid ⟨hs5.fr.heap HI3.out.gb HI3.out.gf.1, hs5.fr.heap HGS.out.1 HGS.out.2, ownsRow_kept HI3.out.own hs5.fr (fun i hi => (HI3.out.lo i hi).2.1)⟩
              have HKS : Hid ((∀ d ∈ ks, OpIn w 1048576 d ∧ 0 ≤ d.at_ ∧ d.at_ ≤ 8) ∧ ks.length = kn) := hid ⟨HI3.out.ops, HI3.out.len⟩
              have HR5 := hid hr5'
              have HF5 := hid hf5
              have HPQ : Hid (P.length = 1024 ∧ Q.length = 1024) := hid ⟨HQ.out.2.2, HQ.out.2.1⟩
              clear hr5 hs5 hf5 hl5 hr5' hB hBe HUP HI3 HGS HQ HK HEX HEN HRS HLS
              go_wp2_with fail
              refine HRD.out.mono ?_
              rintro e w6 ⟨g6, rfl, hg6, hh6, hf6⟩
              have HF6 := hid (HF5.out.trans hf6 (by simp))
              have HG6 : Hid (w6.heap[gB]? = some (.cells (bv P).toArray 5 (0, 0)) ∧ w6.heap[gS]? = some (.cells (bv Q).toArray 5 (0, 0)) ∧ w6.ownsRow 0 41 6 (.slice kp kn kc) kn (rowsK ks) ∧ w6.heap[g6]? = some (.cells (bv B).toArray 5 (0, 0))) := hid ⟨hf6.heap HG5.out.1 (by simp), hf6.heap HG5.out.2.1 (by simp), ownsRow_kept HG5.out.2.2 hf6 (by simp), hg6⟩
              have hr6 := HR5.out.kept hf6 (by simp)
              have HWT := hid (rWaiting pb _ _ _ w6 hr6)
              have HON := hid (rOn pb _ _ _ w6 hr6)
              rw [show S.up.ws.length = 0 from rfl] at HWT
              rw [show S.up.out = false from rfl] at HON
              obtain ⟨sB, hsB⟩ : ∃ s, strOfNums B = s := ⟨_, rfl⟩
              obtain ⟨sP, hsP⟩ : ∃ s, strOfNums P = s := ⟨_, rfl⟩
              obtain ⟨sQ, hsQ⟩ : ∃ s, strOfNums Q = s := ⟨_, rfl⟩
              have e1 := conv_3 w6 g6 1024 B HG6.out.2.2.2 HBL.out
              have e2 := conv_3 w6 gB 1024 P HG6.out.1 HPQ.out.1
              have e3 := conv_3 w6 gS 1024 Q HG6.out.2.1 HPQ.out.2
              rw [hsB] at e1
              rw [hsP] at e2
              rw [hsQ] at e3
              have HSA : Hid (A = true → sQ = sB) := hid (fun h => by rw [← hsQ, ← hsB, HAB.out h])
              have HSN : Hid (N = true → sP = sB) := hid (fun h => by rw [← hsP, ← hsB, HNB.out h])
              clear hg6 hh6 hf6 hr6 hsB hsP hsQ HRD HR5 HF5 HG5 HAB HNB
              go_upto_region 31 with fail
              go_cut [199] from 159 to 199 (fun s wx => s = .bool false ∧ wx = w6)
              case first =>
                cases A
                · cases N
                  · go_wp2_with fail
                    refine HWT.out.mono ?_
                    rintro e wq ⟨rfl, rfl⟩
                    go_wp2_with fail
                    refine HON.out.mono ?_
                    rintro e wq ⟨rfl, rfl⟩
                    go_wp2_with fail
                    go_meet
                    case rel => exact ⟨rfl, rfl⟩
                  · obtain rfl := HSN.out rfl
                    go_wp2_with fail
                    refine HWT.out.mono ?_
                    rintro e wq ⟨rfl, rfl⟩
                    go_wp2_with fail
                    refine HON.out.mono ?_
                    rintro e wq ⟨rfl, rfl⟩
                    go_wp2_with fail
                    go_meet
                    case rel => exact ⟨rfl, rfl⟩
                · obtain rfl := HSA.out rfl
                  cases N
                  · go_wp2_with fail
                    refine HWT.out.mono ?_
                    rintro e wq ⟨rfl, rfl⟩
                    go_wp2_with fail
                    refine HON.out.mono ?_
                    rintro e wq ⟨rfl, rfl⟩
                    go_wp2_with fail
                    go_meet
                    case rel => exact ⟨rfl, rfl⟩
                  · obtain rfl := HSN.out rfl
                    go_wp2_with fail
                    refine HWT.out.mono ?_
                    rintro e wq ⟨rfl, rfl⟩
                    go_wp2_with fail
                    refine HON.out.mono ?_
                    rintro e wq ⟨rfl, rfl⟩
                    go_wp2_with fail
                    go_meet
                    case rel => exact ⟨rfl, rfl⟩
              obtain ⟨rfl, hwc⟩ := hcut
              have hw6 := hwc.symm
              clear hwc
              subst hw6
              clear HSA HSN e1 e2 e3 HWT HON
              have HC0 : Hid (Frm [] w6 w6) := hid (Frm.refl _ _)
              have hgk := ownsRow_low HG6.out.2.2.1
              have HGK : Hid (∀ k ∈ blk kp, k < w6.heap.size) := hid hgk
              clear hgk
              go_wp2_with fail
              go_loopw [25, 26, 27, 28] (fun i s26 s27 s28 wr => ∃ s : Nat, s ≤ 8 ∧ i = .int .i64 (s : Int) ∧ Hid (Frm [] w6 wr)) (fun i _ _ _ _ => 8 - (intOf i).toNat)
              case atStart => exact ⟨0, by omega, rfl, HC0⟩
              case round =>
                clear HC0
                obtain ⟨s, hs, rfl, hfr⟩ := hrel
                by_cases hlt8 : s < 8
                · have ts : (s : Int) < 8 := by omega
                  have HX := hid (fun (W : World) (hf : Frm [] w6 W) => lsec_any g6 0 1024 1024 s B HBL.out (by omega) (by omega) (by omega) W (rd_blockD (hf.heap HG6.out.2.2.2 (by simp))))
                  have HY := hid (lsec_any gB 0 1024 1024 s P HPQ.out.1 (by omega) (by omega) (by omega) wr (rd_blockD (hfr.out.heap HG6.out.1 (by simp))))
                  have HXr := hid (HX.out wr hfr.out)
                  obtain ⟨G0, hG0⟩ : ∃ G : Bool, (G = true ∧ strOfNums (sec B s) = strOfNums (sec P s)) ∨ (G = false ∧ strOfNums (sec B s) ≠ strOfNums (sec P s)) := by
                    by_cases h : strOfNums (sec B s) = strOfNums (sec P s)
                    · exact ⟨true, Or.inl ⟨rfl, h⟩⟩
                    · exact ⟨false, Or.inr ⟨rfl, h⟩⟩
                  have HG0 := hid hG0
                  obtain ⟨xB, hxB⟩ : ∃ x, strOfNums (sec B s) = x := ⟨_, rfl⟩
                  obtain ⟨xP, hxP⟩ : ∃ x, strOfNums (sec P s) = x := ⟨_, rfl⟩
                  have hres : (xB.toList == xP.toList) = G0 := by
                    rcases hG0 with ⟨rfl, h⟩ | ⟨rfl, h⟩
                    · rw [← hxB, ← hxP, h]; simp
                    · rw [← hxB, ← hxP]; exact str_ne h
                  rw [hxB] at HXr
                  rw [hxP] at HY
                  have HXB := hid hxB
                  clear hG0 hxB hxP
                  go_wp2_with fail
                  refine HXr.out.mono ?_
                  rintro e wq ⟨rfl, rfl⟩
                  go_wp2_with fail
                  refine HY.out.mono ?_
                  rintro e wq ⟨rfl, rfl⟩
                  clear HXr HY
                  go_wp2_with fail
                  clear hres
                  have HW0 := hid hfr.out
                  clear hfr
                  go_loopw [26, 27, 28] (fun g i s28 wi => ∃ (k : Nat) (G : Bool), k ≤ kn ∧ g = .bool G ∧ i = .int .i64 (k : Int) ∧ Hid (G = false → strOfNums (sec B s) ≠ strOfNums (sec P s) ∧ ∀ m, m < k → ∀ d, ks[m]? = some d → ¬ Mt w B s d) ∧ Hid (Frm [] w6 wi)) (fun _ i _ _ => kn - (intOf i).toNat)
                  case atStart => exact ⟨0, G0, by omega, rfl, rfl, hid (fun h => ⟨HG0.out.elim (fun h2 => by rw [h2.1] at h; exact Bool.noConfusion h) (fun h2 => h2.2), fun m hm => by omega⟩), HW0⟩
                  case round =>
                    clear HW0 HG0
                    obtain ⟨k, G, hk, rfl, rfl, hG, hfi⟩ := hrel
                    by_cases hltk : k < kn
                    · have tk : (k : Int) < (kn : Int) := by omega
                      obtain ⟨d, hd⟩ : ∃ d, ks[k]? = some d := ⟨_, List.getElem?_eq_getElem (by rw [HKS.out.2]; exact hltk)⟩
                      obtain ⟨gk, rfl, hrow⟩ := ownK_at HG6.out.2.2.1 HKS.out.2 hd
                      obtain ⟨hop, hz0, hz1⟩ := HKS.out.1 d (List.mem_of_getElem? hd)
                      have hrow' := range_kept hrow hfi.out
                      have a2 := hrow' 2 _ rfl
                      have a4 := hrow' 4 _ rfl
                      obtain ⟨bs, hbl, hbr, hbz, _, hbc, _⟩ := hop.2.2.2.2.1
                      have hbl2 : d.bl ≤ 1048576 := hop.2.2.2.2.2.1
                      obtain ⟨M, hM⟩ : ∃ M, d.bl / 128 = M := ⟨_, rfl⟩
                      have hq1 : (d.bl : Int).tdiv 128 = (M : Int) := by rw [Int.tdiv_eq_ediv_of_nonneg (by omega)]; omega
                      have HM := hid hM
                      have HD := hid hd
                      have HBS : Hid (Rd w d.p bs ∧ bs.length = d.bl) := hid ⟨hbr, hbl⟩
                      have hMb : M ≤ 8192 := by omega
                      clear hrow hrow' hop hM hd hbr hbl hbz
                      have step : ¬ Mt w B s d → Hid (G = false → strOfNums (sec B s) ≠ strOfNums (sec P s) ∧ ∀ m, m < k + 1 → ∀ d, ks[m]? = some d → ¬ Mt w B s d) := fun hno => hid (fun h => ⟨(hG.out h).1, fun m hm e he => by
                        by_cases hmk : m < k
                        · exact (hG.out h).2 m hmk e he
                        · obtain rfl : m = k := by omega
                          have h5 := HD.out
                          rw [he] at h5
                          cases h5
                          exact hno⟩)
                      by_cases c1 : 0 ≤ (s : Int) - d.at_
                      case neg =>
                        have HG2 := step (fun ⟨_, _, _, h, _⟩ => c1 h)
                        clear step hG
                        go_wp2_with fail
                        go_roundw
                        case rel => exact ⟨k + 1, G, by omega, by rfl, by go_num, HG2, hfi⟩
                        case measure => simp [intOf]; omega
                      by_cases c2 : (s : Int) - d.at_ < (M : Int)
                      case neg =>
                        have HG2 := step (fun ⟨_, _, _, _, h, _⟩ => by rw [HM.out] at h; exact c2 h)
                        clear step hG
                        go_wp2_with fail
                        go_roundw
                        case rel => exact ⟨k + 1, G, by omega, by rfl, by go_num, HG2, hfi⟩
                        case measure => simp [intOf]; omega
                      cases G
                      case true =>
                        have HG2 : Hid (true = false → strOfNums (sec B s) ≠ strOfNums (sec P s) ∧ ∀ m, m < k + 1 → ∀ d, ks[m]? = some d → ¬ Mt w B s d) := hid (fun h => Bool.noConfusion h)
                        clear step hG
                        go_wp2_with fail
                        go_quiet (fail)
                        go_wp2_with fail
                        go_roundw
                        case rel => exact ⟨k + 1, true, by omega, by rfl, by go_num, HG2, by first | exact hid hfi.out.drew | exact hid (hfi.out.drewN _) | exact hfi⟩
                        case measure => simp [intOf]; omega
                      case false =>
                        obtain ⟨n0, hn0⟩ : ∃ n0 : Nat, (s : Int) - d.at_ = (n0 : Int) := ⟨((s : Int) - d.at_).toNat, by omega⟩
                        obtain ⟨g2, o2, hp2, hrd2⟩ : ∃ g2 o2, d.p = some ⟨g2, o2, none⟩ ∧ Rd w (some ⟨g2, o2, none⟩) bs := by
                          rcases HBS.out.1 with h | ⟨g2, o2, h1, h2⟩
                          · have h3 := HBS.out.2
                            have h4 := HM.out
                            rw [h] at h3
                            simp at h3
                            omega
                          · exact ⟨g2, o2, h1, Or.inr ⟨g2, o2, rfl, h2⟩⟩
                        have HXd := hid (fun n => HX.out (wr.drewN n) (hfi.out.drewN n))
                        have HZd := hid (fun n => lsec_any g2 o2 d.bl d.bc n0 bs HBS.out.2 (by have := HM.out; omega) hbc (by omega) (wr.drewN n) (hrd2.kept (HF6.out.trans (hfi.out.drewN n) (by simp)) (by simp)))
                        rw [← hn0] at HZd
                        obtain ⟨G1, hG1⟩ : ∃ G1 : Bool, (G1 = true ∧ strOfNums (sec B s) = strOfNums (sec bs n0)) ∨ (G1 = false ∧ strOfNums (sec B s) ≠ strOfNums (sec bs n0)) := by
                          by_cases h : strOfNums (sec B s) = strOfNums (sec bs n0)
                          · exact ⟨true, Or.inl ⟨rfl, h⟩⟩
                          · exact ⟨false, Or.inr ⟨rfl, h⟩⟩
                        have HG2 : Hid (G1 = false → strOfNums (sec B s) ≠ strOfNums (sec P s) ∧ ∀ m, m < k + 1 → ∀ d, ks[m]? = some d → ¬ Mt w B s d) := hid (fun h => by
                          rcases hG1 with ⟨h1, _⟩ | ⟨_, h2⟩
                          · rw [h1] at h; exact Bool.noConfusion h
                          · refine (step (fun ⟨bs2, hr2, hl2, _, _, he2⟩ => ?_)).out rfl
                            rw [rd_uniq hr2 HBS.out.1 (hl2.trans HBS.out.2.symm), hn0, Int.toNat_natCast] at he2
                            exact h2 he2)
                        obtain ⟨xZ, hxZ⟩ : ∃ x, strOfNums (sec bs n0) = x := ⟨_, rfl⟩
                        have hres2 : (xB.toList == xZ.toList) = G1 := by
                          rw [← HXB.out, ← hxZ]
                          rcases hG1 with ⟨rfl, h⟩ | ⟨rfl, h⟩
                          · rw [h]; simp
                          · exact str_ne h
                        rw [HXB.out] at HXd
                        rw [hxZ] at HZd
                        rw [hp2] at a4
                        clear step hG hG1 hxZ hn0 hrd2 hp2 HBS
                        go_wp2_with fail
                        go_quiet ((go_at_call 18; first | (with_reducible exact Calls.quiet_of_same (HXd.out _)) | (with_reducible exact Calls.quiet_of_same (HZd.out _))))
                        go_wp2_with fail
                        go_roundw
                        case rel => exact ⟨k + 1, G1, by omega, by rfl, by go_num, HG2, by first | exact hid hfi.out.drew | exact hid (hfi.out.drewN _) | exact hfi⟩
                        case measure => simp [intOf]; omega
                    · obtain rfl : k = kn := by omega
                      have hGt : G = true := by
                        cases G
                        · exfalso
                          obtain ⟨h1, h2⟩ := hG.out rfl
                          rcases HSEC.out s with h3 | ⟨d, hd, hm⟩
                          · exact h1 h3
                          · obtain ⟨m, hm2⟩ := List.mem_iff_getElem?.1 hd
                            exact h2 m (by have h4 := (List.getElem?_eq_some_iff.1 hm2).1; rw [HKS.out.2] at h4; exact h4) d hm2 hm
                        · rfl
                      subst hGt
                      clear hG
                      go_wp2_with fail
                      go_roundw
                      case rel => exact ⟨s + 1, by omega, by go_num, hfi⟩
                      case measure => simp [intOf]; omega
                · obtain rfl : s = 8 := by omega
                  go_wp2_with fail
                  go_returns
                  exact ⟨rfl, HF6.out.trans hfr.out (by simp)⟩
end Go.Proofs.Ytfclamndjnoopaa
