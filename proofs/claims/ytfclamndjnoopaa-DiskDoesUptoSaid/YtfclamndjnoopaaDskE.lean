/- Disks and their power: Write. -/
import Derived.Test.YtfclamndjnoopaaDskD
import Derived.StillTailTactics
import Derived.Test.YtfclamndjnoopaaHeldT
import Derived.Deep.MidRow
import Derived.Test.YtfclamndjnoopaaDskF
namespace Go.Proofs.Ytfclamndjnoopaa
open Go.RowKit Go.Lib
set_option maxRecDepth 100000

def ZW : Array Value := #[.pointer none, .int .i64 0] ++ (bv (List.replicate 128 0)).toArray
theorem infoW : (Try.prog.info? 65).map (fun i => (i.zero, i.size, i.bytes)) = some (some (.agg ZW), 130, 144) := by kernel_rfl
theorem zero_write (W : World) : (zeroValue 65).run Try.prog W = .ok (.agg ZW) W := by
  obtain ⟨i, hi, hz, h1, h2⟩ := info_parts infoW
  simp [zeroValue, typeInfo, hi, hz, Result.andThen]
theorem frm_setRow (W : World) (g : Nat) (cs : Array Value) : Frm [g] W (W.setRow g cs) := ⟨rfl, rfl, rfl, by simp, fun j _ hj => setRow_other W g j _ (by simpa using hj)⟩
/-- copy of so many bytes into the midst of a block of any cells. -/
theorem run_copyV {P : Program} {w : World} (T ty E B : TypeId) (ht : P.underlying T = some (.slice E)) (hI : (P.info? E).map (fun i => (i.zero, i.size, i.bytes)) = some (some (.int .u8 0), 1, 1))
    (dn dc g off : Nat) (C : List Value) (hg : w.heap[g]? = some (.cells C.toArray B (0, 0))) (hdn : off + dn ≤ C.length) (hd0 : 0 < dn)
    (p : Option Addr) (c : Nat) (ns : List Int) (hrd : Rd w p ns) (hk : ns.length = dn) :
    ∃ w', (Builtin.copy_ #[T, T] ty #[.slice (some ⟨g, off, none⟩) dn dc, .slice p dn c]).run P w = .ok (.int .i64 (dn : Int)) w' ∧ w'.heap[g]? = some (.cells (C.take off ++ bv ns ++ C.drop (off + dn)).toArray B (0, 0)) ∧ Frm [g] w w' := by
  obtain ⟨i, hi, hz, h1, h2⟩ := info_parts hI
  have hsz : (P.info? E).map (·.size) = some 1 := by simp [hi, h1]
  have hne : ns ≠ [] := by intro e; subst e; simp at hk; omega
  obtain ⟨ad, rfl, hnews⟩ := bytes_at hrd hne
  have hl : (bv ns).length = dn := by simp [bv, hk]
  have hrun := run_copy_row (P := P) w T T ty E g off dn dc ad dn c _ B (bv ns) ht hsz hg (by rw [hl]; simp) hnews (by rw [hl]; simpa using hdn) bv_one
  rw [hl] at hrun
  refine ⟨_, hrun, ?_, frm_setRow w g _⟩
  rw [setRow_heap w g _ _ B _ hg]
theorem wpList_copyV {P : Program} {w : World} {ops : Array Oper} {rest : List Oper} {o : Oper} {a : Act} {Q : Exit → Act → World → Prop} (hgd : o.guard = none) (d s : Operand) (T : TypeId)
    (ho : o.op = .call { callee := .builtin .copy, args := #[d, s], argTypes := #[T, T] })
    (E B : TypeId) (ht : P.underlying T = some (.slice E)) (hI : (P.info? E).map (fun i => (i.zero, i.size, i.bytes)) = some (some (.int .u8 0), 1, 1))
    (dn dc g off : Nat) (hd : a.eval d = .slice (some ⟨g, off, none⟩) dn dc) (C : List Value) (hg : w.heap[g]? = some (.cells C.toArray B (0, 0))) (hdn : off + dn ≤ C.length) (hd0 : 0 < dn)
    (p : Option Addr) (c : Nat) (ns : List Int) (hx : a.eval s = .slice p dn c) (hrd : Rd w p ns) (hk : ns.length = dn)
    (h : ∀ w', Hid (w'.heap[g]? = some (.cells (C.take off ++ bv ns ++ C.drop (off + dn)).toArray B (0, 0))) → Hid (Frm [g] w w') → wpList P ops Q rest (a.put o.dst (.int .i64 (dn : Int))) w') :
    wpList P ops Q (o :: rest) a w := by
  refine wpList_plain hgd fun K hK => ?_
  obtain ⟨w', hrun, h1, h2⟩ := run_copyV (P := P) (w := w) T o.type E B ht hI dn dc g off C hg hdn hd0 p c ns hrd hk
  unfold Oper.wp
  simp only [execOp, ho, resolve, invoke, builtin, Sem.run_bind, Sem.run_pure, Result.andThen_ok, List.map_toArray, List.map_cons, List.map_nil, hd, hx, hrun]
  exact hK _ _ (h w' h1 h2)
theorem store_new (db : Nat) (k : Int) (w : World) : ∃ wX, Sem.run Try.prog (storeCells ⟨w.heap.size, 0, none⟩ ((ZW.toList.set 0 (.pointer (some ⟨db, 0, none⟩))).set 1 (.int .i64 k))) (w.alloc (.cells ZW 65)) = .ok () wX ∧
    wX.heap[w.heap.size]? = some (.cells (.pointer (some ⟨db, 0, none⟩) :: .int .i64 k :: bv (List.replicate 128 0)).toArray 65 (0, 0)) ∧ Frm [] w wX := by
  have hfa : Frm [] w (w.alloc (.cells ZW 65)) := (Frm.refl _ _).alloc _
  have hg := heap_alloc_new w (.cells ZW 65)
  obtain ⟨g, hgg⟩ : ∃ g, w.heap.size = g := ⟨_, rfl⟩
  have e : (ZW.toList.set 0 (.pointer (some ⟨db, 0, none⟩))).set 1 (.int .i64 k) = (.pointer (some ⟨db, 0, none⟩) :: .int .i64 k :: bv (List.replicate 128 0) : List Value) := by simp [ZW]
  obtain ⟨cs, hcs⟩ : ∃ cs, (.pointer (some ⟨db, 0, none⟩) :: .int .i64 k :: bv (List.replicate 128 0) : List Value) = cs := ⟨_, rfl⟩
  have hl : cs.length = 130 := by rw [← hcs]; simp [bv]
  have hone : ∀ v ∈ cs, v.oneCell' = true := by
    rw [← hcs]
    intro v hv
    simp only [List.mem_cons] at hv
    rcases hv with rfl | rfl | hv
    · rfl
    · rfl
    · exact bv_one v hv
  rw [hgg] at hg
  rw [e, hcs, hgg]
  have h := run_storeCells_at Try.prog g 0 65 cs 0 ZW (w.alloc (.cells ZW 65)) hg (by rw [hl]; simp [ZW, bv]) hone
  refine ⟨_, by simpa using h, ?_, ?_⟩
  · rw [setRow_heap _ g _ _ _ _ hg]
    congr 2
    apply Array.ext'
    have hz : ZW.size = 130 := by simp [ZW, bv]
    simp [hl, hz]
  · exact hfa.trans (frm_setRow _ g _) (fun i hi hl => by simp at hi; omega)
/-- A sector of bytes. -/
def sec (bs : List Int) (i : Nat) : List Int := (bs.drop (i * 128)).take 128
/-- What waits, and what is seen, behind so many writes of sectors. -/
def stW (S : PSt) (D : DSt) (at_ : Nat) (bs : List Int) : Nat → PSt × List Int
  | 0 => (S, D.seen)
  | j + 1 => ({ (spendS (stW S D at_ bs j).1).2 with ws := (stW S D at_ bs j).1.ws ++ [⟨D.db, at_ + j, sec bs j⟩] }, splice (stW S D at_ bs j).2 ((at_ + j) * 128) (sec bs j))
theorem spend_facts (S : PSt) : (spendS S).2.ws = S.ws ∧ (spendS S).2.bounded = S.bounded ∧ ((spendS S).1 = true → (spendS S).2.out = S.out ∧ (spendS S).2.writes = S.writes + 1 ∧ (spendS S).2.left = (if S.bounded then S.left - 1 else S.left) ∧ (S.bounded = true → S.left ≠ 0)) ∧ ((spendS S).1 = false → S.bounded = true ∧ S.left = 0 ∧ (spendS S).2 = { S with out := true }) := by
  unfold spendS
  split
  · rename_i h
    exact ⟨rfl, rfl, fun h => Bool.noConfusion h, fun _ => ⟨h.1, h.2, rfl⟩⟩
  · rename_i h
    exact ⟨rfl, rfl, fun _ => ⟨rfl, rfl, rfl, fun hb h0 => h ⟨hb, h0⟩⟩, fun h => Bool.noConfusion h⟩
theorem stW_facts (S : PSt) (D : DSt) (at_ : Nat) (bs : List Int) : ∀ j, (∀ i, i < j → (spendS (stW S D at_ bs i).1).1 = true) → (S.bounded = true → 0 ≤ S.left) →
    (stW S D at_ bs j).1.bounded = S.bounded ∧ (stW S D at_ bs j).1.out = S.out ∧ (stW S D at_ bs j).1.writes = S.writes + j ∧ (stW S D at_ bs j).1.ws.length = S.ws.length + j ∧ (S.bounded = true → (stW S D at_ bs j).1.left = S.left - j ∧ (j : Int) ≤ S.left) ∧ (S.bounded = false → (stW S D at_ bs j).1.left = S.left) := by
  intro j
  induction j with
  | zero => intro _ hl; exact ⟨rfl, rfl, by simp [stW], rfl, fun h => ⟨by simp [stW], hl h⟩, fun _ => rfl⟩
  | succ j ih =>
    intro h hl
    obtain ⟨i1, i2, i3, i4, i5, i6⟩ := ih (fun i hi => h i (by omega)) hl
    obtain ⟨f1, f2, f3, _⟩ := spend_facts (stW S D at_ bs j).1
    obtain ⟨g1, g2, g3, g4⟩ := f3 (h j (by omega))
    refine ⟨?_, ?_, ?_, ?_, fun hb => ?_, fun hb => ?_⟩
    · show (spendS (stW S D at_ bs j).1).2.bounded = _; rw [f2, i1]
    · show (spendS (stW S D at_ bs j).1).2.out = _; rw [g1, i2]
    · show (spendS (stW S D at_ bs j).1).2.writes = _; rw [g2, i3]; omega
    · show ((stW S D at_ bs j).1.ws ++ [_]).length = _; rw [List.length_append, i4]; simp; omega
    · obtain ⟨k1, k2⟩ := i5 hb
      have hb' : (stW S D at_ bs j).1.bounded = true := by rw [i1, hb]
      have hne := g4 hb'
      rw [hb', if_pos rfl] at g3
      refine ⟨?_, by omega⟩
      show (spendS (stW S D at_ bs j).1).2.left = _; rw [g3, k1]; omega
    · have hb' : (stW S D at_ bs j).1.bounded = false := by rw [i1, hb]
      rw [hb'] at g3
      show (spendS (stW S D at_ bs j).1).2.left = _; rw [g3, ← i6 hb]; simp
/-- Where a Write stands behind j sectors: the power, the disk. -/
structure InW (w : World) (pb : Nat) (S : PSt) (D : DSt) (at_ : Nat) (bs : List Int) (j : Nat) (q0 : Option Addr) (w' : World) (q : Option Addr) (c : Nat) : Prop where
  pow : IsPow w' pb (stW S D at_ bs j).1 q c
  dsk : IsDisk w' pb { D with seen := (stW S D at_ bs j).2 }
  fr : Frm ([pb, D.gs] ++ blk q0) w w'
  nb : ∀ k ∈ blk q, k ∈ blk q0 ∨ w.heap.size ≤ k
/-- Where a Write stands that the power left behind j sectors. -/
structure EndW (w : World) (pb : Nat) (S : PSt) (D : DSt) (at_ : Nat) (bs : List Int) (j : Nat) (q0 : Option Addr) (w' : World) (q : Option Addr) (c : Nat) : Prop where
  no : (spendS (stW S D at_ bs j).1).1 = false
  pow : IsPow w' pb (spendS (stW S D at_ bs j).1).2 q c
  dsk : IsDisk w' pb { D with seen := (stW S D at_ bs j).2 }
  fr : Frm ([pb, D.gs] ++ blk q0) w w'
  nb : ∀ k ∈ blk q, k ∈ blk q0 ∨ w.heap.size ≤ k
set_option maxHeartbeats 6400000 in
theorem write_loop (pb : Nat) (S : PSt) (q0 : Option Addr) (c0 : Nat) (D : DSt) (at_ : Nat) (g o cc m : Nat) (bs : List Int) (w : World) (hp : IsPow w pb S q0 c0) (hd : IsDisk w pb D) (hask : askE S D (at_ : Int) (m : Int) = 0) (hat : at_ + m ≤ D.n) (hbs : bs.length = m * 128) (hcc : m * 128 ≤ cc) (hrd : Rd w (some ⟨g, o, none⟩) bs) (hbb : ∀ z ∈ bs, 0 ≤ z ∧ z < 256) (hl : S.bounded = true → 0 ≤ S.left) (hwr : S.writes + S.ws.length + m * 2 < 500000000000)
    (hgb : g ≠ pb ∧ g ≠ D.gs ∧ g ∉ blk q0) (hdq : D.db ∉ blk q0 ∧ D.gp ∉ blk q0 ∧ D.gs ∉ blk q0) (hdp : D.db ≠ pb ∧ D.gp ≠ pb ∧ D.gs ≠ pb) :
    Calls Try.prog 11 #[.pointer (some ⟨D.db, 0, none⟩), .int .i64 (at_ : Int), .slice (some ⟨g, o, none⟩) (m * 128) cc] w fun e w' => ∃ j q c, j ≤ m ∧ (∀ i, i < j → (spendS (stW S D at_ bs i).1).1 = true) ∧ ((j = m ∧ e = .returned (.int .i64 0) ∧ InW w pb S D at_ bs j q0 w' q c) ∨ (j < m ∧ e = .returned (.int .i64 5) ∧ EndW w pb S D at_ bs j q0 w' q c)) := by
  have HP := hid hp
  have HD := hid hd
  obtain ⟨d0, d1, d2, d3, d4⟩ := hd.cells
  have hn2 := hd.n2
  have HA := hid (ask_any pb S q0 c0 D (at_ : Int) (m : Int) w hp hd (by omega) (by omega))
  rw [hask] at HA
  have hq1 : ((m : Int) * 128).tdiv 128 = (m : Int) := by rw [Int.tdiv_eq_ediv_of_nonneg (by omega)]; omega
  have hq2 : ((m : Int) * 128).tmod 128 = 0 := by rw [Int.tmod_eq_emod_of_nonneg (by omega)]; omega
  have hlb := lt_of_heap hd.row
  have HRD := hid hrd
  have HBB := hid hbb
  have HBS := hid hbs
  have HL := hid hl
  have HGB := hid hgb
  have HDQ := hid hdq
  have HDP := hid hdp
  have HST : Hid (InW w pb S D at_ bs 0 q0 w q0 c0) := hid ⟨hp, hd, Frm.refl _ _, fun k hk => Or.inl hk⟩
  clear hp hd hask hrd hbb hbs hl hgb hdq hdp
  go_enter Try.func11, Try.ntmps11
  go_wp2_with fail
  refine HA.out.mono ?_
  rintro e w1 ⟨rfl, rfl⟩
  go_wp2_with fail
  clear hq1 hq2 HA
  go_loopw [26, 9, 10] (fun i s9 s10 wr => ∃ (j : Nat) (q : Option Addr) (c : Nat), j ≤ m ∧ i = .int .i64 (j : Int) ∧ Hid (∀ i, i < j → (spendS (stW S D at_ bs i).1).1 = true) ∧ Hid (InW w1 pb S D at_ bs j q0 wr q c)) (fun i _ _ _ => m - (intOf i).toNat)
  case atStart => exact ⟨0, q0, c0, by omega, rfl, hid (fun i hi => by omega), HST⟩
  case round =>
    clear HST
    obtain ⟨j, q, c, hj, rfl, hsp, hin⟩ := hrel
    by_cases hlt : j < m
    · have t1 : (j : Int) < (m : Int) := by omega
      obtain ⟨e0, e1, e2, e3, e4⟩ := hin.out.dsk.cells
      have HSP : Hid (Calls Try.prog 29 #[.pointer (some ⟨pb, 0, none⟩)] wr fun e w' => e = .returned (.bool (spendS (stW S D at_ bs j).1).1) ∧ IsPow w' pb (spendS (stW S D at_ bs j).1).2 q c ∧ Frm [pb] wr w') := hid (spend_any pb _ q c wr hin.out.pow (fun hb => by
        obtain ⟨f1, _, _, _, f5, _⟩ := stW_facts S D at_ bs j hsp.out HL.out
        rw [f1] at hb
        have := f5 hb
        omega) (by
        obtain ⟨_, _, f3, f4, _, _⟩ := stW_facts S D at_ bs j hsp.out HL.out
        rw [f3, f4]
        omega))
      go_wp2_with fail
      refine HSP.out.mono ?_
      rintro e w2 ⟨rfl, hp2, hf2⟩
      obtain ⟨B, hB⟩ : ∃ B, (spendS (stW S D at_ bs j).1).1 = B := ⟨_, rfl⟩
      rw [hB]
      cases B
      case false =>
        have HEW := hid (EndW.mk (w := w1) (q0 := q0) hB hp2 (hin.out.dsk.kept hf2 (by simp; exact HDP.out.1) (by simp; exact HDP.out.2.1) (by simp; exact HDP.out.2.2)) (hin.out.fr.trans hf2 (fun i hi hl => by simp at hi; subst hi; simp)) hin.out.nb)
        clear HSP hp2 hf2 hin hB e0 e1 e2 e3 e4
        go_wp2_with fail
        go_returns
        exact ⟨j, q, c, by omega, hsp.out, Or.inr ⟨hlt, rfl, HEW.out⟩⟩
      clear HSP
      have hzv := zero_write
      have hz1 : (ZW = #[]) = False := by simp [ZW]
      have hz2 : ZW.size = 130 := by simp [ZW, bv]
      obtain ⟨w3, hst, hv3, hf3⟩ := store_new D.db ((at_ : Int) + (j : Int)) w2
      have HV3 := hid hv3
      have HF3 := hid hf3
      have HSE := hid (fun W => sector_any g o (m * 128) cc j (by omega) hcc (by omega) W)
      have HSL : Hid ((sec bs j).length = 128) := hid (by unfold sec; rw [List.length_take, List.length_drop, HBS.out]; omega)
      clear hv3 hf3
      go_wp2_with fail
      go_still_tail 5, (by kernel_rfl)
      refine wpStill_step (fun K hK => ?_)
      go_simp
      refine ⟨_, HSE.out _, hK _ ?_⟩
      clear hK K
      repeat still_step
      refine wpStill_nil ?_
      change wpList _ _ _ _ _ w3.drew
      obtain ⟨w4, hw4⟩ : ∃ W, w3.drew = W := ⟨_, rfl⟩
      obtain ⟨vb, hvb⟩ : ∃ b, w2.heap.size = b := ⟨_, rfl⟩
      have hf34 : Frm [] w2 w4 := by rw [← hw4]; exact HF3.out.drew
      have hv4 : w4.heap[vb]? = some (.cells (.pointer (some ⟨D.db, 0, none⟩) :: .int .i64 ((at_ : Int) + (j : Int)) :: bv (List.replicate 128 0)).toArray 65 (0, 0)) := by rw [← hw4, ← hvb]; exact HV3.out
      rw [hw4, hvb]
      have hfr4 : Frm ([pb, D.gs] ++ blk q0) w1 w4 := (hin.out.fr.trans hf2 (fun i hi hl => by simp at hi; subst hi; simp)).trans hf34 (by simp)
      have hg4 : g ∉ [pb, D.gs] ++ blk q0 := by have h := HGB.out; simp; exact ⟨h.1, h.2.1, h.2.2⟩
      have HRS : Hid (Rd w4 (some ⟨g, o + j * 128, none⟩) (sec bs j)) := hid ((Rd.drop (HRD.out.kept hfr4 (by simpa [blk] using hg4)) (j * 128)).take 128)
      have hd4 : IsDisk w4 pb { D with seen := (stW S D at_ bs j).2 } := (hin.out.dsk.kept hf2 (by simp; exact HDP.out.1) (by simp; exact HDP.out.2.1) (by simp; exact HDP.out.2.2)).kept hf34 (by simp) (by simp) (by simp)
      have hp4 := hp2.kept hf34 (by simp) (by simp)
      have hlow := ownsRow_low hp2.own
      have HVB : Hid (D.db < vb ∧ D.gp < vb ∧ D.gs < vb ∧ pb < vb ∧ (∀ k ∈ blk q, k < vb) ∧ w1.heap.size ≤ vb) := hid (by
        rw [← hvb]
        have h1 := hin.out.dsk.kept hf2 (by simp; exact HDP.out.1) (by simp; exact HDP.out.2.1) (by simp; exact HDP.out.2.2)
        have h2 := (hin.out.fr.trans hf2 (fun i hi hl => by simp at hi; subst hi; simp)).size
        exact ⟨lt_of_heap h1.row, lt_of_heap h1.pl, lt_of_heap h1.se, lt_of_heap hp2.row, hlow, h2⟩)
      have HV4 := hid hv4
      have HD4 := hid hd4
      have HP4 := hid hp4
      have HFR4 := hid hfr4
      have HNB := hid hin.out.nb
      clear hw4 hvb hf34 hv4 hfr4 hg4 hd4 hp4 hlow hin hf2 hp2 HV3 HF3 HSE hst hzv hz1 hz2 e0 e1 e2 e3 e4
      go_wp2_with (refine wpList_copyV rfl _ _ 22 rfl 5 65 Try.underlying22 infoB 128 128 vb 2 rfl _ HV4.out (by simp [bv]) (by omega) (some ⟨g, o + j * 128, none⟩) (cc - j * 128) (sec bs j) rfl HRS.out HSL.out ?_)
      intro w5 hv5 hf5
      obtain ⟨X, hX⟩ : ∃ X : Wt, X = ⟨D.db, at_ + j, sec bs j⟩ := ⟨_, rfl⟩
      have HXR : Hid (w5.heap[vb]? = some (.cells X.row.toArray 65 (0, 0))) := hid (by
        have h := hv5.out
        rw [hX]
        unfold Wt.row
        rw [h]
        simp [bv])
      have HXL : Hid (X.bytes.length = 128) := hid (by rw [hX]; exact HSL.out)
      have hd5 := HD4.out.kept hf5.out (by have := HVB.out; simp; omega) (by have := HVB.out; simp; omega) (by have := HVB.out; simp; omega)
      have hp5 := HP4.out.kept hf5.out (by have := HVB.out; simp; omega) (fun k hk hm => by simp at hm; subst hm; have := HVB.out.2.2.2.2.1 _ hk; omega)
      have HFR5 := hid (HFR4.out.trans hf5.out (fun i hi hl => by simp at hi; have := HVB.out; omega))
      have HX := hid hX
      have HD5 := hid hd5
      have HP5 := hid hp5
      obtain ⟨e0, e1, e2, e3, e4⟩ := hd5.cells
      obtain ⟨p0, p1, p2, p3, p4⟩ := hp5.cells
      clear hv5 hf5 hX hd5 hp5 HV4 HD4 HP4 HFR4 HRS HSL
      go_wp2_with fail
      obtain ⟨L, hL⟩ : ∃ L, (spendS (stW S D at_ bs j).1).2.ws.length = L := ⟨_, rfl⟩
      rw [hL] at p4
      have HLL := hid hL
      clear hL
      have hrg : w5.rangeAt vb 0 X.row := fun i v hv => by rw [Nat.zero_add, cell_of_row w5 _ _ _ _ _ HXR.out]; simpa using hv
      have HSD : Hid ((w5.drew.cell? ⟨D.db, 0, none⟩ = some (.pointer (some ⟨pb, 0, none⟩)) ∧ w5.drew.cell? ⟨pb, 4, none⟩ = some (.slice q L c) ∧ w5.drew.rangeAt vb 0 X.row)) := hid ⟨e0, p4, hrg⟩
      have hiW : (Try.prog.info? 65).map (·.size) = some X.row.length := by obtain ⟨i, hi, hz, h1, h2⟩ := info_parts infoW; simp [hi, h1, row_length HXL.out]
      have HIW := hid hiW
      clear hrg hiW e1 e2 e3 p1 p2 p3
      refine wp_region_tail (S := fun W => (W.cell? ⟨D.db, 0, none⟩ = some (.pointer (some ⟨pb, 0, none⟩)) ∧ W.cell? ⟨pb, 4, none⟩ = some (.slice q L c) ∧ W.rangeAt vb 0 X.row)) 14 17 rfl (by kernel_rfl) (by kernel_rfl) ?_
      refine wpAnyHT_take (i := 0) (oi := _) (v := ?_) (by kernel_rfl) rfl (by kernel_rfl) (by kernel_rfl) (by kernel_rfl) (by kernel_rfl) (fun _ _ _ h => h) (Or.inl ⟨by rfl, ?_⟩) HSD.out ?_
      rotate_left 1
      · (intro W hSw; obtain ⟨s0, s1, s2⟩ := hSw; (try simp only [List.getElem_toArray, List.getElem_cons_zero]); go_simp; try with_reducible rfl)
      try simp only [List.getElem_toArray, List.getElem_cons_zero, Act.put, List.setIfInBounds_toArray, List.set_cons_zero, List.set_cons_succ]
      refine wpAnyHT_take (i := 1) (oi := _) (v := ?_) (by kernel_rfl) rfl (by kernel_rfl) (by kernel_rfl) (by kernel_rfl) (by kernel_rfl) (fun _ _ _ h => h) (Or.inl ⟨by rfl, ?_⟩) HSD.out ?_
      rotate_left 1
      · (intro W hSw; obtain ⟨s0, s1, s2⟩ := hSw; (try simp only [List.getElem_toArray, List.getElem_cons_succ, List.getElem_cons_zero]); go_simp; try with_reducible rfl)
      try simp only [List.getElem_toArray, List.getElem_cons_succ, List.getElem_cons_zero, Act.put, List.setIfInBounds_toArray, List.set_cons_zero, List.set_cons_succ]
      refine wpAnyHT_take (i := 2) (oi := _) (v := ?_) (by kernel_rfl) rfl (by kernel_rfl) (by kernel_rfl) (by kernel_rfl) (by kernel_rfl) (fun _ _ _ h => h) (Or.inl ⟨by rfl, ?_⟩) HSD.out ?_
      rotate_left 1
      · (intro W hSw; obtain ⟨s0, s1, s2⟩ := hSw; (try simp only [List.getElem_toArray, List.getElem_cons_succ, List.getElem_cons_zero]); go_simp; try with_reducible rfl)
      try simp only [List.getElem_toArray, List.getElem_cons_succ, List.getElem_cons_zero, Act.put, List.setIfInBounds_toArray, List.set_cons_zero, List.set_cons_succ]
      refine wpAnyHT_take (i := 3) (oi := _) (v := ?_) (by kernel_rfl) rfl (by kernel_rfl) (by kernel_rfl) (by kernel_rfl) (by kernel_rfl) (fun _ _ _ h => h) (Or.inl ⟨by rfl, ?_⟩) HSD.out ?_
      rotate_left 1
      · (intro W hSw; obtain ⟨s0, s1, s2⟩ := hSw; (try simp only [List.getElem_toArray, List.getElem_cons_succ, List.getElem_cons_zero]); go_simp; try with_reducible rfl)
      try simp only [List.getElem_toArray, List.getElem_cons_succ, List.getElem_cons_zero, Act.put, List.setIfInBounds_toArray, List.set_cons_zero, List.set_cons_succ]
      refine wpAnyHT_take (i := 4) (oi := _) (v := ?_) (by kernel_rfl) rfl (by kernel_rfl) (by kernel_rfl) (by kernel_rfl) (by kernel_rfl) (fun _ _ _ h => h) (Or.inl ⟨by rfl, ?_⟩) HSD.out ?_
      rotate_left 1
      · (intro W hSw; obtain ⟨s0, s1, s2⟩ := hSw; (try simp only [List.getElem_toArray, List.getElem_cons_succ, List.getElem_cons_zero]); go_simp; try with_reducible rfl)
      try simp only [List.getElem_toArray, List.getElem_cons_succ, List.getElem_cons_zero, Act.put, List.setIfInBounds_toArray, List.set_cons_zero, List.set_cons_succ]
      refine wpAnyHT_take (i := 5) (oi := _) (v := ?_) (by kernel_rfl) rfl (by kernel_rfl) (by kernel_rfl) (by kernel_rfl) (by kernel_rfl) (fun _ _ _ h => h) (Or.inl ⟨by rfl, ?_⟩) HSD.out ?_
      rotate_left 1
      · (intro W hSw; obtain ⟨s0, s1, s2⟩ := hSw; (try simp only [List.getElem_toArray, List.getElem_cons_succ, List.getElem_cons_zero]); go_simp; try with_reducible rfl)
      try simp only [List.getElem_toArray, List.getElem_cons_succ, List.getElem_cons_zero, Act.put, List.setIfInBounds_toArray, List.set_cons_zero, List.set_cons_succ]
      refine wpAnyHT_take (i := 6) (oi := _) (v := ?_) (by kernel_rfl) rfl (by kernel_rfl) (by kernel_rfl) (by kernel_rfl) (by kernel_rfl) (fun _ _ _ h => h) (Or.inl ⟨by rfl, ?_⟩) HSD.out ?_
      rotate_left 1
      · (intro W hSw; obtain ⟨s0, s1, s2⟩ := hSw; (try simp only [List.getElem_toArray, List.getElem_cons_succ, List.getElem_cons_zero]); go_simp; try with_reducible rfl)
      try simp only [List.getElem_toArray, List.getElem_cons_succ, List.getElem_cons_zero, Act.put, List.setIfInBounds_toArray, List.set_cons_zero, List.set_cons_succ]
      refine wpAnyHT_take (i := 7) (oi := _) (v := ?_) (by kernel_rfl) rfl (by kernel_rfl) (by kernel_rfl) (by kernel_rfl) (by kernel_rfl) (fun _ _ _ h => h) (Or.inl ⟨by rfl, ?_⟩) HSD.out ?_
      rotate_left 1
      · (intro W hSw; obtain ⟨s0, s1, s2⟩ := hSw; (try simp only [List.getElem_toArray, List.getElem_cons_succ, List.getElem_cons_zero]); go_simp; try with_reducible rfl)
      try simp only [List.getElem_toArray, List.getElem_cons_succ, List.getElem_cons_zero, Act.put, List.setIfInBounds_toArray, List.set_cons_zero, List.set_cons_succ]
      refine wpAnyHT_take (i := 8) (oi := _) (v := ?_) (by kernel_rfl) rfl (by kernel_rfl) (by kernel_rfl) (by kernel_rfl) (by kernel_rfl) (fun _ _ _ h => h) (Or.inl ⟨by rfl, ?_⟩) HSD.out ?_
      rotate_left 1
      · (intro W hSw; obtain ⟨s0, s1, s2⟩ := hSw; (try simp only [List.getElem_toArray, List.getElem_cons_succ, List.getElem_cons_zero]); go_simp; try with_reducible rfl)
      try simp only [List.getElem_toArray, List.getElem_cons_succ, List.getElem_cons_zero, Act.put, List.setIfInBounds_toArray, List.set_cons_zero, List.set_cons_succ]
      refine wpAnyHT_take (i := 9) (oi := _) (v := ?_) (by kernel_rfl) rfl (by kernel_rfl) (by kernel_rfl) (by kernel_rfl) (by kernel_rfl) (fun _ _ _ h => h) (Or.inl ⟨by rfl, ?_⟩) HSD.out ?_
      rotate_left 1
      · (intro W hSw; obtain ⟨s0, s1, s2⟩ := hSw; (try simp only [List.getElem_toArray, List.getElem_cons_succ, List.getElem_cons_zero]); go_simp; try with_reducible rfl)
      try simp only [List.getElem_toArray, List.getElem_cons_succ, List.getElem_cons_zero, Act.put, List.setIfInBounds_toArray, List.set_cons_zero, List.set_cons_succ]
      refine wpAnyHT_take (i := 10) (oi := _) (v := ?_) (by kernel_rfl) rfl (by kernel_rfl) (by kernel_rfl) (by kernel_rfl) (by kernel_rfl) (fun _ _ _ h => h) (Or.inl ⟨by rfl, ?_⟩) HSD.out ?_
      rotate_left 1
      · (intro W hSw; obtain ⟨s0, s1, s2⟩ := hSw; (try simp only [List.getElem_toArray, List.getElem_cons_succ, List.getElem_cons_zero]); go_simp; try with_reducible rfl)
      try simp only [List.getElem_toArray, List.getElem_cons_succ, List.getElem_cons_zero, Act.put, List.setIfInBounds_toArray, List.set_cons_zero, List.set_cons_succ]
      refine wpAnyHT_take (i := 11) (oi := _) (v := _) (by kernel_rfl) rfl (by kernel_rfl) (by kernel_rfl) (by kernel_rfl) (by kernel_rfl) (fun _ _ _ h => h) (yieldsIf_load_mid rfl 65 _ rfl vb 0 rfl X.row _ (fun W h => h.2.2) Try.underlying65 rfl HIW.out) HSD.out ?_
      try simp only [List.getElem_toArray, List.getElem_cons_succ, List.getElem_cons_zero, Act.put, List.setIfInBounds_toArray, List.set_cons_zero, List.set_cons_succ]
      have hfa6 : Frm [] w5 (w5.drew.alloc (.cells X.row.toArray 65)) := (Frm.refl [] w5).drew.alloc _
      have HP6 := hid (HP5.out.kept hfa6 (by simp) (by simp))
      have HRV : Hid (Rv (w5.drew.alloc (.cells X.row.toArray 65)) (some ⟨w5.heap.size, 0, none⟩) X.row) := hid (rv_block (cs := X.row.toArray) (heap_alloc_new w5.drew _))
      have HVB6 : Hid ((w5.drew.alloc (.cells X.row.toArray 65)).heap[vb]? = some (.cells X.row.toArray 65 (0, 0))) := hid (hfa6.heap HXR.out (by simp))
      have HDR6 := hid (hfa6.heap HD5.out.row (by simp))
      have HSB : Hid ((w5.drew.alloc (.cells X.row.toArray 65)).cell? ⟨D.db, 0, none⟩ = some (.pointer (some ⟨pb, 0, none⟩)) ∧ (w5.drew.alloc (.cells X.row.toArray 65)).cell? ⟨pb, 4, none⟩ = some (.slice q L c) ∧ (w5.drew.alloc (.cells X.row.toArray 65)).rangeAt vb 0 X.row) := hid ⟨by rw [cell_of_row _ _ _ _ _ _ HDR6.out]; rfl, by rw [cell_of_row _ _ _ _ _ _ HP6.out.row, ← HLL.out]; rfl, fun i v hv => by rw [Nat.zero_add, cell_of_row _ _ _ _ _ _ HVB6.out]; simpa using hv⟩
      have HFA6 := hid hfa6
      have HLB : Hid (L ≤ 500000000000) := hid (by have h := HP5.out.wb; rw [HLL.out] at h; omega)
      have HOW : Hid ((w5.drew.alloc (.cells X.row.toArray 65)).ownsRow 0 65 130 (.slice q L c) L (rowsW (stW S D at_ bs j).1.ws)) := hid (by have h := HP6.out.own; rw [HLL.out, (spend_facts _).1] at h; exact h)
      have HON : Hid (∀ v ∈ X.row, v.oneCell' = true) := hid (fun v hv => by
        simp only [Wt.row, List.mem_cons] at hv
        rcases hv with rfl | rfl | hv
        · rfl
        · rfl
        · exact bv_one v hv)
      clear hfa6
      refine wpAnyHT_one (i := 12) rfl (by kernel_rfl) (by kernel_rfl) (fun K hK => ?_)
      refine step_buildSlice1 (by rfl) _ 57 (by rfl) 65 130 144 _ Try.underlying57 infoW (by omega) (by omega) X.row (by rfl) (row_length HXL.out) ?_
      refine hK _ _ HSB.out ?_
      clear hK K
      try simp only [List.getElem_toArray, List.getElem_cons_succ, List.getElem_cons_zero, Act.put, List.setIfInBounds_toArray, List.set_cons_zero, List.set_cons_succ]
      refine wpAnyHT_one (i := 13) rfl (by kernel_rfl) (by kernel_rfl) (fun K hK => ?_)
      refine step_appV (by rfl) _ _ 57 (by rfl) 65 130 144 _ Try.underlying57 infoW (by simp [Value.cells, ZW, bv]) (by omega) q L c (rowsW (stW S D at_ bs j).1.ws) (by rfl) HOW.out (some ⟨w5.heap.size, 0, none⟩) 1 1 X.row (by rfl) (by rw [row_length HXL.out]) (by simp) HRV.out HON.out (by have := HLB.out; unfold maxLen; omega) (by have := HLB.out; omega) ?_
      intro p7 c7 w7 ho7 hf7 hfr7
      have hnq : ∀ k, k < w1.heap.size → k ∉ blk q0 → k ∉ blk q := fun k h1 h2 h3 => (HNB.out k h3).elim h2 (fun h => by omega)
      have hgp1 := lt_of_heap HD.out.pl
      have hgs1 := lt_of_heap HD.out.se
      have hn7 : D.db ∉ blk q ∧ D.gp ∉ blk q ∧ D.gs ∉ blk q := ⟨hnq _ hlb HDQ.out.1, hnq _ hgp1 HDQ.out.2.1, hnq _ hgs1 HDQ.out.2.2⟩
      have hvq : vb ∉ blk q := fun h => by have := HVB.out.2.2.2.2.1 _ h; omega
      have hd7 := (HD5.out.kept HFA6.out (by simp) (by simp) (by simp)).kept hf7.out hn7.1 hn7.2.1 hn7.2.2
      have hr7 := hf7.out.heap HP6.out.row HP5.out.apart
      have hv7 := hf7.out.heap HVB6.out hvq
      have hFR7 := (HFR5.out.trans HFA6.out (by simp)).trans hf7.out (fun k hk hl => by
        rcases HNB.out k hk with h | h
        · simp [h]
        · omega)
      have hpn : pb ∉ blk p7 := fun h => (hfr7.out _ h).elim HP5.out.apart (fun h => by have h1 := HVB.out.2.2.2.1; have h2 := lt_of_heap HXR.out; have h3 := HFA6.out.size; omega)
      have hnb7 : ∀ k ∈ blk p7, k ∈ blk q0 ∨ w1.heap.size ≤ k := fun k hk => (hfr7.out k hk).elim (HNB.out k) (fun h => Or.inr (by have h1 := HVB.out.2.2.2.2.2; have h2 := lt_of_heap HXR.out; have h3 := HFA6.out.size; omega))
      have HPN := hid hpn
      have HNB7 := hid hnb7
      have HOW7 := hid ho7.out
      have HFR7 := hid hFR7
      have HV7 := hid hv7
      have HD7 := hid hd7
      have HR7 := hid hr7
      have HS7 : Hid (w7.cell? ⟨D.db, 0, none⟩ = some (.pointer (some ⟨pb, 0, none⟩)) ∧ w7.cell? ⟨pb, 4, none⟩ = some (.slice q L c) ∧ w7.rangeAt vb 0 X.row) := hid ⟨hd7.cells.1, by rw [cell_of_row _ _ _ _ _ _ hr7, ← HLL.out]; rfl, fun i v hv => by rw [Nat.zero_add, cell_of_row _ _ _ _ _ _ hv7]; simpa using hv⟩
      refine hK _ _ HS7.out ?_
      clear hK K hnq hgp1 hgs1 hn7 hvq hd7 hr7 hv7 hFR7 hpn hnb7 ho7 hf7 hfr7
      try simp only [List.getElem_toArray, List.getElem_cons_succ, List.getElem_cons_zero, Act.put, List.setIfInBounds_toArray, List.set_cons_zero, List.set_cons_succ]
      refine wpAnyHT_end (by kernel_rfl) ?_
      simp only [List.drop_succ_cons, List.drop_zero]
      have s4 := HS7.out.2.1
      have z4 := frozen_of_row w7 pb 4 _ _ HR7.out
      have HFS : Hid (Frm [pb] w7 (w7.setCell ⟨pb, 4, none⟩ (.slice p7 (L + 1) c7))) := hid ((Frm.refl _ _).setCell _ _ (by simp))
      have HP8 : Hid (IsPow (w7.setCell ⟨pb, 4, none⟩ (.slice p7 (L + 1) c7)) pb (stW S D at_ bs (j + 1)).1 p7 c7) := hid (by
        obtain ⟨f1, f2, f3, f4, f5, f6⟩ := stW_facts S D at_ bs (j + 1) (fun i hi => by
          by_cases h : i < j
          · exact hsp.out i h
          · obtain rfl : i = j := by omega
            exact hB) HL.out
        have hws : (stW S D at_ bs (j + 1)).1.ws = (stW S D at_ bs j).1.ws ++ [X] := by rw [HX.out]; rfl
        have hLn : (stW S D at_ bs (j + 1)).1.ws.length = L + 1 := by rw [hws, List.length_append, ← HLL.out, (spend_facts _).1]; rfl
        refine ⟨?_, ?_, fun x hx => ?_, HP5.out.lb, ?_, HPN.out⟩
        · rw [heap_setCell_same _ _ 4 _ _ _ HR7.out, hLn]
          rfl
        · rw [hLn, hws, rowsW_app]
          have e : rowsW [X] = X.row := by simp [rowsW]
          rw [e]
          exact ownsRow_kept HOW7.out HFS.out (fun k hk hm => by simp at hm; subst hm; exact HPN.out hk)
        · rw [hws] at hx
          rcases List.mem_append.1 hx with h | h
          · exact HP5.out.len x (by rw [(spend_facts _).1]; exact h)
          · simp at h
            subst h
            exact HXL.out
        · rw [f3, f4]
          have h := HP.out.wb
          omega)
      have HD8 := hid (HD7.out.kept HFS.out (by simp; exact HDP.out.1) (by simp; exact HDP.out.2.1) (by simp; exact HDP.out.2.2))
      have HV8 := hid (HFS.out.heap HV7.out (by have := HVB.out; simp; omega))
      have HFR8 := hid (HFR7.out.trans HFS.out (fun i hi hl => by simp at hi; subst hi; simp))
      clear HP5 HP6 HD5 HD7 HR7 HV7 HS7 HSB HSD HOW HOW7 HRV HON HFA6 HVB6 HDR6 HLB HFR5 HFR7 HXR HIW HFS e0 p0 p4
      go_wp2_with fail
      obtain ⟨w8, hw8⟩ : ∃ W, w7.setCell ⟨pb, 4, none⟩ (.slice p7 (L + 1) c7) = W := ⟨_, rfl⟩
      rw [hw8] at HP8 HD8 HV8 HFR8
      rw [hw8]
      clear hw8 s4 z4 e4 HLL HNB
      obtain ⟨d0, d1, d2, d3, d4⟩ := HD8.out.cells
      have hwr15 : IntKind.i64.wrap ((at_ : Int) + (j : Int)) = (at_ : Int) + (j : Int) := IntWalk.i64_in _ (by omega)
      have HSE := hid (fun W => sector_any D.gs 0 (D.n * 128) (D.n * 128) (at_ + j) (by omega) (Nat.le_refl _) (by omega) W)
      rw [show ((at_ + j : Nat) : Int) = (at_ : Int) + (j : Int) by omega] at HSE
      simp only [Nat.zero_add] at HSE
      go_still_tail 10, (by kernel_rfl)
      refine wpStill_step (fun K hK => ?_)
      go_simp
      refine ⟨_, HSE.out _, hK _ ?_⟩
      clear hK K
      repeat still_step
      refine wpStill_nil ?_
      change wpList _ _ _ _ _ w8.drew
      have hf89 : Frm [] w8 w8.drew := (Frm.refl _ _).drew
      obtain ⟨w9, hw9⟩ : ∃ W, w8.drew = W := ⟨_, rfl⟩
      rw [hw9] at hf89 ⊢
      have HP9 := hid (HP8.out.kept hf89 (by simp) (by simp))
      have HD9 := hid (HD8.out.kept hf89 (by simp) (by simp) (by simp))
      have hv9 := hf89.heap HV8.out (by simp)
      have HFR9 := hid (HFR8.out.trans hf89 (by simp))
      have HRX : Hid (Rd w9 (some ⟨vb, 2, none⟩) X.bytes) := hid (Or.inr ⟨vb, 2, rfl, fun i hi => by
        rw [cell_of_row _ _ _ _ _ _ hv9]
        simp only [List.getElem?_toArray, Wt.row]
        rw [show 2 + i = i + 1 + 1 by omega, List.getElem?_cons_succ, List.getElem?_cons_succ]
        exact bv_get hi⟩)
      have HSN : Hid ((stW S D at_ bs j).2.length = D.n * 128) := hid HD9.out.sn
      clear hw9 hf89 hv9 HP8 HD8 HV8 HFR8 HSE hwr15 d0 d1 d2 d3 d4
      go_wp2_with (refine wpList_copyV rfl _ _ 22 rfl 5 5 Try.underlying22 infoB 128 (D.n * 128 - (at_ + j) * 128) D.gs ((at_ + j) * 128) rfl (bv (stW S D at_ bs j).2) HD9.out.se (by have := HSN.out; simp [bv]; omega) (by omega) (some ⟨vb, 2, none⟩) 128 X.bytes rfl HRX.out HXL.out ?_)
      intro w10 hse hf10
      have HIN : Hid (InW w1 pb S D at_ bs (j + 1) q0 w10 p7 c7) := hid (by
        have hXb : X.bytes = sec bs j := by rw [HX.out]
        have hsl : (sec bs j).length = 128 := by rw [← hXb]; exact HXL.out
        have hgs1 := lt_of_heap HD.out.se
        have hgp : D.gs ∉ blk p7 := fun h => (HNB7.out _ h).elim HDQ.out.2.2 (fun h => by omega)
        have hd9 := HD9.out
        have hsp2 : (bv (stW S D at_ bs j).2).take ((at_ + j) * 128) ++ (bv X.bytes ++ (bv (stW S D at_ bs j).2).drop ((at_ + j) * 128 + 128)) = bv (splice (stW S D at_ bs j).2 ((at_ + j) * 128) (sec bs j)) := by
          unfold splice
          rw [hXb, hsl]
          simp [bv, List.map_take, List.map_drop]
        have hse' := hse.out
        rw [hsp2] at hse'
        refine ⟨HP9.out.kept hf10.out (by simp; exact fun h => HDP.out.2.2 h.symm) (fun k hk hm => by simp at hm; subst hm; exact hgp hk), ⟨hf10.out.heap hd9.row (by simp; exact hd9.a3), hf10.out.heap hd9.pl (by simp; exact hd9.a1), hse', hd9.pn, ?_, hd9.pz, ?_, hd9.n1, hd9.n2, hd9.a1, hd9.a2, hd9.a3⟩, HFR9.out.trans hf10.out (fun i hi hl => by simp at hi; subst hi; simp), HNB7.out⟩
        · show (splice _ _ _).length = _
          rw [splice_length (by rw [hsl, HSN.out]; omega), HSN.out]
        · intro z hz
          have hz' : z ∈ splice (stW S D at_ bs j).2 ((at_ + j) * 128) (sec bs j) := hz
          unfold splice at hz'
          simp only [List.mem_append] at hz'
          rcases hz' with (h | h) | h
          · exact hd9.sz z (List.mem_of_mem_take h)
          · exact HBB.out z (List.mem_of_mem_drop (List.mem_of_mem_take h))
          · exact hd9.sz z (List.mem_of_mem_drop h))
      have HSPJ : Hid (∀ i, i < j + 1 → (spendS (stW S D at_ bs i).1).1 = true) := hid (fun i hi => by
        by_cases h : i < j
        · exact hsp.out i h
        · obtain rfl : i = j := by omega
          exact hB)
      clear hse hf10 HP9 HD9 HFR9 HRX HSN HXL HX hB hsp HVB HPN HNB7
      go_wp2_with fail
      go_roundw
      case rel => exact ⟨j + 1, p7, c7, by omega, by go_num, HSPJ, HIN⟩
      case measure => simp [intOf]; omega
    · obtain rfl : j = m := by omega
      go_wp2_with fail
      go_returns
      exact ⟨j, q, c, Nat.le_refl _, hsp.out, Or.inl ⟨rfl, rfl, hin.out⟩⟩
end Go.Proofs.Ytfclamndjnoopaa
