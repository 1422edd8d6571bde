/- RangesOrder, walked. -/
import Derived.Test.YtbgochkmplacaaaRgO
namespace Go.Proofs.Ytbgochkmplacaaa
open Go.RowKit Go.Lib
set_option maxRecDepth 100000

/-- A list of spans that came in. -/
def CameS (w : World) (p : Option Addr) (len cap : Nat) : Prop := len ≤ cap ∧ cap ≤ 9223372036854775807 ∧ ∃ ys : List Sp, ys.length = len ∧ (∀ y ∈ ys, y.In) ∧ (len = 0 ∨ ∃ g o, p = some ⟨g, o, none⟩ ∧ ∀ (i : Nat) (y : Sp), ys[i]? = some y → w.cell? ⟨g, o + i * 2, none⟩ = some (.int .i64 y.a) ∧ w.cell? ⟨g, o + i * 2 + 1, none⟩ = some (.int .i64 y.m))
/-- Where the law stands: two sets, a list, a variable, each in blocks of its own. -/
structure OS (w wr : World) (sb : Nat) (ps : Option Addr) (cs : Nat) (l : List Sp) (tb : Nat) (pt : Option Addr) (ct : Nat) (lt : List Sp) (pk : Option Addr) (nk ck : Nat) (ks : List Sp) (bx : Nat) (x : Sp) : Prop where
  s : SM w wr sb ps cs l
  t : SM w wr tb pt ct lt
  k : OwnS wr pk nk ck ks
  kn : ∀ i ∈ blk pk, w.heap.size ≤ i
  vx : wr.heap[bx]? = some (.cells #[.int .i64 x.a, .int .i64 x.m] 31 (0, 0))
  bn : w.heap.size ≤ bx
  a1 : ∀ i ∈ tb :: blk pt, i ∉ sb :: blk ps
  a2 : ∀ i ∈ blk pk, i ∉ sb :: blk ps ∧ i ∉ tb :: blk pt ∧ i ≠ bx
  a3 : bx ∉ sb :: blk ps ∧ bx ∉ tb :: blk pt
theorem SM.low {w0 wr : World} {sb : Nat} {p : Option Addr} {c : Nat} {l : List Sp} (h : SM w0 wr sb p c l) : ∀ i ∈ sb :: blk p, i < wr.heap.size := fun i hi => by
  rcases List.mem_cons.1 hi with rfl | h1
  · exact lt_of_heap h.rs.row
  · exact ownsRow_low h.rs.own.1 i h1
theorem SM.away {w0 wr w' : World} {sb : Nat} {p : Option Addr} {c : Nat} {l : List Sp} {T : List Nat} (h : SM w0 wr sb p c l) (hf : Frm T wr w') (ha : ∀ i ∈ sb :: blk p, i ∉ T) (hT : ∀ i ∈ T, w0.heap.size ≤ i) : SM w0 w' sb p c l :=
  ⟨h.rs.kept hf (ha sb (by simp)) (fun k hk => ha k (by simp [hk])), h.nm, h.ln, h.mn.1.trans hf (fun k hk hkl => by have := hT k hk; omega), h.mn.2⟩
section
variable {w wr w' : World} {sb : Nat} {ps : Option Addr} {cs : Nat} {l : List Sp} {tb : Nat} {pt : Option Addr} {ct : Nat} {lt : List Sp} {pk : Option Addr} {nk ck : Nat} {ks : List Sp} {bx : Nat} {x : Sp}
theorem OS.k0 (h : OS w wr sb ps cs l tb pt ct lt pk nk ck ks bx x) (hf : Frm [] wr w') : OS w w' sb ps cs l tb pt ct lt pk nk ck ks bx x :=
  ⟨h.s.k0 hf, h.t.k0 hf, h.k.kept hf (by simp), h.kn, hf.heap h.vx (by simp), h.bn, h.a1, h.a2, h.a3⟩
theorem OS.klow (h : OS w wr sb ps cs l tb pt ct lt pk nk ck ks bx x) : ∀ i ∈ blk pk, i < wr.heap.size := ownsRow_low h.k.1
theorem new_sub {p p' : Option Addr} {b : Nat} {wr : World} (hb : ∀ k ∈ blk p', k ∈ blk p ∨ wr.heap.size ≤ k) : ∀ k ∈ b :: blk p', k ∈ b :: blk p ∨ wr.heap.size ≤ k := fun k hk => by
  rcases List.mem_cons.1 hk with rfl | h
  · exact Or.inl (by simp)
  · exact (hb k h).imp (fun h => by simp [h]) id
theorem OS.addS (h : OS w wr sb ps cs l tb pt ct lt pk nk ck ks bx x) {p' : Option Addr} {c' : Nat} {l' : List Sp} (h1 : RSet w' sb p' c' l') (h2 : Norm 0 l') (h3 : l'.length ≤ 4096) (h4 : Frm (sb :: blk ps) wr w') (h5 : ∀ k ∈ blk p', k ∈ blk ps ∨ wr.heap.size ≤ k) : OS w w' sb p' c' l' tb pt ct lt pk nk ck ks bx x := by
  have hm : ∀ i ∈ sb :: blk ps, w.heap.size ≤ i := fun i hi => by
    rcases List.mem_cons.1 hi with rfl | h6
    · exact h.s.mn.2.1
    · exact h.s.mn.2.2 i h6
  have hs := new_sub (b := sb) h5
  refine ⟨h.s.add h1 h2 h3 h4 h5, h.t.away h4 h.a1 hm, h.k.kept h4 (fun i hi => (h.a2 i hi).1), h.kn, h4.heap h.vx h.a3.1, h.bn, fun i hi hj => ?_, fun i hi => ⟨fun hj => ?_, (h.a2 i hi).2⟩, ⟨fun hj => ?_, h.a3.2⟩⟩
  · rcases hs i hj with h6 | h6
    · exact h.a1 i hi h6
    · have := h.t.low i hi; omega
  · rcases hs i hj with h6 | h6
    · exact (h.a2 i hi).1 h6
    · have := h.klow i hi; omega
  · rcases hs bx hj with h6 | h6
    · exact h.a3.1 h6
    · have := lt_of_heap h.vx; omega
theorem OS.addT (h : OS w wr sb ps cs l tb pt ct lt pk nk ck ks bx x) {p' : Option Addr} {c' : Nat} {l' : List Sp} (h1 : RSet w' tb p' c' l') (h2 : Norm 0 l') (h3 : l'.length ≤ 4096) (h4 : Frm (tb :: blk pt) wr w') (h5 : ∀ k ∈ blk p', k ∈ blk pt ∨ wr.heap.size ≤ k) : OS w w' sb ps cs l tb p' c' l' pk nk ck ks bx x := by
  have hm : ∀ i ∈ tb :: blk pt, w.heap.size ≤ i := fun i hi => by
    rcases List.mem_cons.1 hi with rfl | h6
    · exact h.t.mn.2.1
    · exact h.t.mn.2.2 i h6
  have hs := new_sub (b := tb) h5
  refine ⟨h.s.away h4 (fun i hi hj => h.a1 i hj hi) hm, h.t.add h1 h2 h3 h4 h5, h.k.kept h4 (fun i hi => (h.a2 i hi).2.1), h.kn, h4.heap h.vx h.a3.2, h.bn, fun i hi hj => ?_, fun i hi => ⟨(h.a2 i hi).1, fun hj => ?_, (h.a2 i hi).2.2⟩, ⟨h.a3.1, fun hj => ?_⟩⟩
  · rcases hs i hi with h6 | h6
    · exact h.a1 i h6 hj
    · have := h.s.low i hj; omega
  · rcases hs i hj with h6 | h6
    · exact (h.a2 i hi).2.1 h6
    · have := h.klow i hi; omega
  · rcases hs bx hj with h6 | h6
    · exact h.a3.2 h6
    · have := lt_of_heap h.vx; omega
theorem OS.app (h : OS w wr sb ps cs l tb pt ct lt pk nk ck ks bx x) {wa : World} (ha : Frm [] wr wa) {y : Sp} {p2 : Option Addr} {c2 : Nat} (ho : w'.ownsRow 0 31 2 (.slice p2 (nk + 1) c2) (nk + 1) (rowS ks ++ rowS [y])) (hf : Frm (blk pk) wa w') (hb : ∀ k ∈ blk p2, k ∈ blk pk ∨ wa.heap.size ≤ k) : OS w w' sb ps cs l tb pt ct lt p2 (nk + 1) c2 (ks ++ [y]) bx x := by
  have h1 := h.k0 ha
  refine ⟨h1.s.away hf (fun i hi hj => (h.a2 i hj).1 hi) h.kn, h1.t.away hf (fun i hi hj => (h.a2 i hj).2.1 hi) h.kn, ⟨by rw [rowS_app]; exact ho, by rw [List.length_append, h.k.2]; rfl⟩, fun i hi => ?_, hf.heap h1.vx (fun hj => (h.a2 _ hj).2.2 rfl), h.bn, h.a1, fun i hi => ?_, h.a3⟩
  · rcases hb i hi with h2 | h2
    · exact h.kn i h2
    · have := h1.s.mn.1.size; omega
  · rcases hb i hi with h2 | h2
    · exact h.a2 i h2
    · exact ⟨fun hj => by have := h1.s.low i hj; omega, fun hj => by have := h1.t.low i hj; omega, fun e => by subst e; have := lt_of_heap h1.vx; omega⟩
/-- Another list in the place of the one. -/
theorem OS.list (h : OS w wr sb ps cs l tb pt ct lt pk nk ck ks bx x) {p2 : Option Addr} {n2 c2 : Nat} {k2 : List Sp} (ho : OwnS w' p2 n2 c2 k2) (hf : Frm [] wr w') (hb : ∀ k ∈ blk p2, wr.heap.size ≤ k) : OS w w' sb ps cs l tb pt ct lt p2 n2 c2 k2 bx x := by
  have h1 := h.k0 hf
  refine ⟨h1.s, h1.t, ho, fun i hi => by have := hb i hi; have := h.s.mn.1.size; omega, h1.vx, h.bn, h.a1, fun i hi => ?_, h.a3⟩
  have h2 := hb i hi
  exact ⟨fun hj => by have := h.s.low i hj; omega, fun hj => by have := h.t.low i hj; omega, fun e => by subst e; have := lt_of_heap h.vx; omega⟩
end
set_option maxHeartbeats 25600000 in
theorem rorder_any (p : Option Addr) (len cap : Nat) (x : Sp) (many from_ : Int) (w : World) (hS : CameS w p len cap) (hx : x.In) (hm : -9223372036854775808 ≤ many ∧ many ≤ 9223372036854775807) (hf : -9223372036854775808 ≤ from_ ∧ from_ ≤ 9223372036854775807) :
    Calls Try.prog 5 #[.slice p len cap, .agg #[.int .i64 x.a, .int .i64 x.m], .int .i64 many, .int .i64 from_] w fun e w' => e = .returned (.bool true) ∧ Frm [] w w' := by
  have HC := hid hS
  have HX := hid hx
  have HM := hid hm
  have HFr := hid hf
  obtain ⟨hm1, hm2⟩ := hm
  obtain ⟨hf1, hf2⟩ := hf
  have HNW := hid (fun w => new9_any w)
  obtain ⟨w1, hw1⟩ : ∃ q, w.alloc (.cells #[.int .i64 x.a, .int .i64 x.m] 31) = q := ⟨_, rfl⟩
  obtain ⟨bx, hbx⟩ : ∃ q, w.heap.size = q := ⟨_, rfl⟩
  have hfa : Frm [] w w1 := by rw [← hw1]; exact (Frm.refl _ _).alloc _
  have g1 : w1.heap[bx]? = some (.cells #[.int .i64 x.a, .int .i64 x.m] 31 (0, 0)) := by rw [← hw1]; exact heap_alloc_to _ _ hbx
  have HG1 := hid g1
  have HF1 := hid hfa
  have HW1 := hid hw1
  have HBX := hid hbx
  clear hS hx hw1 hbx hfa g1
  go_enter Try.func5, Try.ntmps5
  go_upto_region 1 with fail
  rw [HBX.out, HW1.out]
  go_wp2_with fail
  refine (awake9_any _).mono ?_
  rintro e w2 ⟨rfl, hf2'⟩
  have HF2 := hid (HF1.out.trans hf2' (by simp))
  have HG2 := hid (hf2'.heap HG1.out (by simp))
  clear hf2' HF1 HG1 HW1
  go_wp2_with fail
  refine (HNW.out _).mono ?_
  rintro e w3 ⟨sb, rfl, hr3, hf3, hl3⟩
  have HF3 := hid (HF2.out.trans hf3 (by simp))
  have HR3 := hid hr3
  have HL3 : Hid (w2.heap.size ≤ sb) := hid hl3
  have HG3 := hid (hf3.heap HG2.out (by simp))
  clear hr3 hf3 hl3
  go_wp2_with fail
  refine (HNW.out _).mono ?_
  rintro e w4 ⟨tb, rfl, hr4, hf4, hl4⟩
  have HST : Hid (OS w w4 sb none 0 [] tb none 0 [] none 0 0 [] bx x) := hid ⟨⟨HR3.out.k0 hf4, trivial, by simp, HF3.out.trans hf4 (by simp), by have := HF2.out.size; have := HL3.out; omega, by simp [blk]⟩, ⟨hr4, trivial, by simp, HF3.out.trans hf4 (by simp), by have := HF3.out.size; omega, by simp [blk]⟩, ⟨⟨rfl, Or.inl ⟨rfl, rfl⟩⟩, rfl⟩, by simp [blk], hf4.heap HG3.out (by simp), by have := HBX.out; omega, by simp [blk]; have := lt_of_heap HR3.out.row; omega, by simp [blk], by simp [blk]; have := lt_of_heap HG2.out; have := HL3.out; have := lt_of_heap HG3.out; omega⟩
  clear hr4 hf4 hl4 HNW HF2 HG2 HF3 HR3 HL3 HG3 HBX
  go_wp2_with fail
  go_loopw [13, 14, 12] (fun i s14 s12 wr => ∃ (t : Nat) (ps : Option Addr) (cs : Nat) (l : List Sp) (pk : Option Addr) (nk ck : Nat) (ks : List Sp), t ≤ len ∧ t ≤ 2000 ∧ nk ≤ t ∧ i = .int .i64 (t : Int) ∧ s12 = .slice pk nk ck ∧ Hid (OS w wr sb ps cs l tb none 0 [] pk nk ck ks bx x) ∧ Hid (Dj ks ∧ (∀ n, Mem9 l n ↔ Mem9 ks n) ∧ l.length ≤ t)) (fun i _ _ _ => 2000 - (intOf i).toNat)
  case atStart => exact ⟨0, none, 0, [], none, 0, 0, [], Nat.zero_le _, by omega, by omega, rfl, rfl, HST, hid ⟨⟨by simp, fun i j y z _ h => by simp at h⟩, fun n => Iff.rfl, by simp⟩⟩
  case round =>
    clear HST
    obtain ⟨t, ps, cs, l, pk, nk, ck, ks, ht, ht2, hnk, rfl, rfl, hos, hkp⟩ := hrel
    by_cases hgo : t < len ∧ t < 2000
    · obtain ⟨hlt, hl2⟩ := hgo
      have t1 : (t : Int) < (len : Int) := by omega
      have t2 : (t : Int) < 2000 := by omega
      obtain ⟨_, _, ys, hyl, hyi, hyc⟩ := HC.out
      obtain ⟨g, o, rfl, hcells⟩ : ∃ g o, p = some ⟨g, o, none⟩ ∧ ∀ (i : Nat) (y : Sp), ys[i]? = some y → w.cell? ⟨g, o + i * 2, none⟩ = some (.int .i64 y.a) ∧ w.cell? ⟨g, o + i * 2 + 1, none⟩ = some (.int .i64 y.m) := by
        rcases hyc with h | h
        · omega
        · exact h
      obtain ⟨y, hy⟩ : ∃ y, ys[t]? = some y := ⟨_, List.getElem?_eq_getElem (by omega)⟩
      obtain ⟨d0, d1⟩ := hcells t y hy
      have hyin : y.In := hyi y (List.mem_of_getElem? hy)
      have y0 : wr.cell? ⟨g, o + t * 2, none⟩ = some (.int .i64 y.a) := (hos.out.s.mn.1.cell (World.block_lt_of_cell? w _ d0) (by simp)).trans d0
      have y1 : wr.cell? ⟨g, o + t * 2 + 1, none⟩ = some (.int .i64 y.m) := (hos.out.s.mn.1.cell (World.block_lt_of_cell? w _ d1) (by simp)).trans d1
      have HD := hid (And.intro d0 d1)
      have HAD := hid (add_any sb ps cs l y wr hos.out.s.rs hos.out.s.nm hos.out.s.ln hyin)
      clear hyl hyi hyc hcells hy d0 d1 hyin
      go_wp2_with fail
      refine HAD.out.mono ?_
      rintro e w5 ⟨E, l', p', c', rfl, ha, h1, h2, h3, h4, h5⟩
      have HOS := hid (hos.out.addS h1 h2 h3 h4 h5)
      rcases ha.zero with ⟨rfl, hmay, hdis, hmem, hlen⟩ | ⟨hE, rfl⟩
      · have hw5 : Frm [] w w5 := HOS.out.s.mn.1
        have z0 : w5.cell? ⟨g, o + t * 2, none⟩ = some (.int .i64 y.a) := (hw5.cell (World.block_lt_of_cell? w _ HD.out.1) (by simp)).trans HD.out.1
        have z1 : w5.cell? ⟨g, o + t * 2 + 1, none⟩ = some (.int .i64 y.m) := (hw5.cell (World.block_lt_of_cell? w _ HD.out.2) (by simp)).trans HD.out.2
        have HOW := hid (ownsRow_kept HOS.out.k.1 ((Frm.refl [] w5).alloc (.cells #[.int .i64 y.a, .int .i64 y.m] 31)) (by simp))
        have HRV := hid (rv_block (heap_alloc_new w5 (.cells #[.int .i64 y.a, .int .i64 y.m] 31)))
        have HKP : Hid (Dj (ks ++ [y]) ∧ (∀ n, Mem9 l' n ↔ Mem9 (ks ++ [y]) n) ∧ l'.length ≤ t + 1) := hid ⟨hkp.out.1.more hmay (fun n q1 q2 h => hdis n q1 q2 ((hkp.out.2.1 n).2 h)), fun n => by rw [hmem, mem9_app, mem9_one, hkp.out.2.1], by have := hkp.out.2.2; omega⟩
        clear y0 y1 ha h1 h2 h3 h4 h5 hmay hdis hmem hlen hw5 HAD
        go_wp2_with (at_builtin; refine wpList_appV rfl _ _ 27 rfl 31 2 16 _ Try.underlying27 infoSp rfl (by decide) pk nk ck (rowS ks) rfl HOW.out (some ⟨w5.heap.size, 0, none⟩) 1 1 [.int .i64 y.a, .int .i64 y.m] rfl rfl (by simp) HRV.out (by intro u hu; simp at hu; rcases hu with rfl | rfl <;> rfl) (by unfold maxLen; omega) (by omega) ?_)
        intro p6 c6 w6 ho6 hf6 hb6
        have HO6 := hid (HOS.out.app ((Frm.refl [] w5).alloc _) (y := y) ho6.out hf6.out (fun k hk => by have := hb6.out k hk; simpa using this))
        clear ho6 hf6 hb6 z0 z1
        go_wp2_with fail
        go_roundw
        case rel => exact ⟨t + 1, p', c', l', p6, nk + 1, c6, ks ++ [y], by omega, by omega, by omega, by go_num, rfl, HO6, HKP⟩
        case measure => simp [intOf]; omega
      · have hEb : (E == 0) = false := by simp; exact hE
        have HKP : Hid (Dj ks ∧ (∀ n, Mem9 l' n ↔ Mem9 ks n) ∧ l'.length ≤ t + 1) := hid ⟨hkp.out.1, hkp.out.2.1, by have := hkp.out.2.2; omega⟩
        clear y0 y1 ha h1 h2 h3 h4 h5 hE HAD
        go_wp2_with fail
        go_roundw
        case rel => exact ⟨t + 1, p', c', l', pk, nk, ck, ks, by omega, by omega, by omega, by go_num, rfl, HOS, HKP⟩
        case measure => simp [intOf]; omega
    · go_upto_region 8 with fail
      go_cut [47] from 40 to 64 (fun s wx => s = .bool false ∧ wx = wr)
      case first =>
        by_cases hlt : t < len
        · have t2 : ¬ ((t : Int) < 2000) := by omega
          have t1 : (t : Int) < (len : Int) := by omega
          go_wp2_with fail
          go_meet
          case rel => exact ⟨rfl, rfl⟩
        · have t1 : ¬ ((t : Int) < (len : Int)) := by omega
          go_wp2_with fail
          go_meet
          case rel => exact ⟨rfl, rfl⟩
      obtain ⟨rfl, hwc⟩ := hcut
      have hwr9 := hwc.symm
      clear hwc hgo
      subst hwr9
      have hnk2 : nk ≤ 2000 := by omega
      have HKP := hkp
      have HNKS : Hid (ks.length = nk) := hid hos.out.k.2
      clear HC
      go_wp2_with fail
      go_loopw [15, 16, 8] (fun i s16 s8 wr => ∃ (z : Int) (pt : Option Addr) (ct : Nat) (lt : List Sp), -1 ≤ z ∧ z < (nk : Int) ∧ i = .int .i64 z ∧ Hid (OS w wr sb ps cs l tb pt ct lt pk nk ck ks bx x) ∧ Hid ((∀ n, Mem9 lt n ↔ Mem9 (ks.drop (z + 1).toNat) n) ∧ lt.length + (z + 1).toNat ≤ nk)) (fun i _ _ _ => (intOf i + 1).toNat)
      case atStart => exact ⟨(nk : Int) - 1, none, 0, [], by omega, by omega, rfl, hos, hid ⟨fun n => by rw [show ((nk : Int) - 1 + 1).toNat = nk by omega, List.drop_eq_nil_of_le (by rw [HNKS.out]; exact Nat.le_refl _)], by simp⟩⟩
      case round =>
        clear hos
        obtain ⟨z, pt, ct, lt, hz1, hz2, rfl, ho, hq⟩ := hrel
        by_cases h0 : 0 ≤ z
        · obtain ⟨m, rfl⟩ : ∃ m : Nat, z = m := ⟨z.toNat, by omega⟩
          obtain ⟨y, hy⟩ : ∃ y, ks[m]? = some y := ⟨_, List.getElem?_eq_getElem (by rw [HNKS.out]; omega)⟩
          obtain ⟨g, hg, y0, y1⟩ := ho.out.k.at hy
          subst hg
          have HY := hid hy
          have hmay := HKP.out.1.1 y (List.mem_of_getElem? hy)
          have HMAY := hid hmay
          have HAD := hid (add_any tb pt ct lt y wr ho.out.t.rs ho.out.t.nm ho.out.t.ln (by obtain ⟨f1, f2, f3, f4⟩ := hmay.fits; unfold Sp.In; omega))
          clear hy hmay
          go_wp2_with fail
          refine HAD.out.mono ?_
          rintro e w5 ⟨E, l', p', c', rfl, ha, h1, h2, h3, h4, h5⟩
          obtain ⟨hdr1, hdr2⟩ := HKP.out.1.drop HY.out
          have hz3 : ((m : Int) + 1).toNat = m + 1 := by omega
          have hq1 := hq.out.1
          have hq2 := hq.out.2
          rw [hz3] at hq1 hq2
          obtain ⟨hE, hmem, hlen⟩ := ha.ok HMAY.out (fun n q1 q2 h => hdr1 n q1 q2 ((hq1 n).1 h)) (by omega)
          subst hE
          have HO2 := hid (ho.out.addT h1 h2 h3 h4 h5)
          have HQ2 : Hid ((∀ n, Mem9 l' n ↔ Mem9 (ks.drop ((m : Int) - 1 + 1).toNat) n) ∧ l'.length + ((m : Int) - 1 + 1).toNat ≤ nk) := hid ⟨fun n => by rw [show ((m : Int) - 1 + 1).toNat = m by omega, hmem, hdr2, hq1], by omega⟩
          clear ha h1 h2 h3 h4 h5 hdr1 hdr2 hz3 hq1 hq2 hmem hlen y0 y1 HAD
          go_wp2_with fail
          go_roundw
          case rel => exact ⟨(m : Int) - 1, p', c', l', by omega, by omega, rfl, HO2, HQ2⟩
          case measure => first | (simp [intOf]; done) | (simp [intOf]; omega)
        · have hzz : z = -1 := by omega
          subst hzz
          obtain rfl : lt = l := norm_same ho.out.t.nm ho.out.s.nm (fun n => (hq.out.1 n).trans (HKP.out.2.1 n).symm)
          have HAL := hid (all9_any sb ps cs lt wr ho.out.s.rs (by have := ho.out.s.ln; omega))
          clear hq HKP hkp
          go_wp2_with fail
          refine HAL.out.mono ?_
          rintro e wa ⟨pb, cb, rfl, hob, hfb, hbb⟩
          have HO3 := hid (ho.out.list hob hfb hbb)
          have hNb : lt.length ≤ 4096 := HO3.out.s.ln
          have HALL := hid (fun W p c (h : RSet W tb p c lt) => all9_any tb p c lt W h (by omega))
          obtain ⟨N, hN⟩ : ∃ q, lt.length = q := ⟨_, rfl⟩
          rw [hN] at HO3 hNb HALL ⊢
          have HN := hid hN
          clear hob hfb hbb ho HAL hN
          go_wp2_with fail
          refine (HALL.out _ _ _ HO3.out.t.rs).mono ?_
          rintro e wb ⟨pc, cc, rfl, hoc, hfc, _⟩
          have HO4 := hid (HO3.out.k0 hfc)
          have HSA := hid (same9_any pb pc cb cc lt N wb HO4.out.k hoc (by omega))
          clear hoc hfc HO3
          go_wp2_with fail
          refine HSA.out.mono ?_
          rintro e wc1 ⟨rfl, hfs⟩
          have HO5 := hid (HO4.out.k0 hfs)
          have v0 : wc1.cell? ⟨bx, 0, none⟩ = some (.int .i64 x.a) := by rw [cell_of_row _ _ _ _ _ _ HO5.out.vx]; rfl
          have v1 : wc1.cell? ⟨bx, 1, none⟩ = some (.int .i64 x.m) := by rw [cell_of_row _ _ _ _ _ _ HO5.out.vx]; rfl
          have HAD := hid (add_any tb pt ct lt x wc1 HO5.out.t.rs HO5.out.t.nm HO5.out.t.ln HX.out)
          clear hfs HSA HO4
          go_wp2_with fail
          refine HAD.out.mono ?_
          rintro e wd ⟨E, l', p', c', rfl, ha, h1, h2, h3, h4, h5⟩
          have HO6 := hid (HO5.out.addT h1 h2 h3 h4 h5)
          have HAP := hid ha
          clear ha h1 h2 h3 h4 h5 v0 v1 HAD
          go_upto_if 90 with fail
          go_cut [20] (fun s wx => ∃ pt' ct', Hid (OS w wx sb ps cs lt tb pt' ct' lt pb N cb lt bx x))
          case first =>
            rcases HAP.out.zero with ⟨rfl, hmay, hdis, hmem, hlen⟩ | ⟨hE, rfl⟩
            · have u0 : wd.cell? ⟨bx, 0, none⟩ = some (.int .i64 x.a) := by rw [cell_of_row _ _ _ _ _ _ HO6.out.vx]; rfl
              have u1 : wd.cell? ⟨bx, 1, none⟩ = some (.int .i64 x.m) := by rw [cell_of_row _ _ _ _ _ _ HO6.out.vx]; rfl
              have HRM := hid (rem_any tb p' c' l' x wd HO6.out.t.rs HO6.out.t.nm HO6.out.t.ln HX.out)
              have HHP : Hid (HasP l' x) := hid ⟨hmay, fun n q1 q2 => (hmem n).2 (Or.inr ⟨q1, q2⟩)⟩
              have HME : Hid (∀ n, Mem9 lt n ↔ Mem9 l' n ∧ ¬ (x.a ≤ n ∧ n < x.e)) := hid (fun n => by
                rw [hmem]
                constructor
                · exact fun h => ⟨Or.inl h, fun h6 => hdis n h6.1 h6.2 h⟩
                · rintro ⟨h | h, h6⟩
                  · exact h
                  · exact absurd h h6)
              clear hmay hdis hmem hlen
              go_wp2_with fail
              refine HRM.out.mono ?_
              rintro e we ⟨E2, l2, p2, c2, rfl, hr, h1, h2, h3, h4, h5⟩
              obtain ⟨hE2, hl2⟩ := hr.same HHP.out HO5.out.s.nm HME.out HO5.out.s.ln
              subst hE2 hl2
              have HO7 := hid (HO6.out.addT h1 h2 h3 h4 h5)
              clear hr h1 h2 h3 h4 h5 u0 u1 HRM
              go_wp2_with fail
              go_meet
              case rel => exact ⟨p2, c2, HO7⟩
            · have hEb : (E == 0) = false := by simp; exact hE
              clear hE
              go_wp2_with fail
              go_meet
              case rel => exact ⟨p', c', HO6⟩
          obtain ⟨pt2, ct2, hO7⟩ := hcut
          have HO7 := hid hO7.out
          clear hO7 HO6 HO5 HAP
          go_wp2_with fail
          refine (HALL.out _ _ _ HO7.out.t.rs).mono ?_
          rintro e wf ⟨pd, cd, rfl, hod, hfd, _⟩
          have HO8 := hid (HO7.out.k0 hfd)
          have HSA := hid (same9_any pd pb cd cb lt N wf hod HO8.out.k (by omega))
          clear hod hfd HO7
          go_wp2_with fail
          refine HSA.out.mono ?_
          rintro e wg ⟨rfl, hfs⟩
          have HO9 := hid (HO8.out.k0 hfs)
          have HFI := hid (find_any sb ps cs lt many from_ wg HO9.out.s.rs HO9.out.s.nm HO9.out.s.ln HM.out HFr.out)
          obtain ⟨ab, hab⟩ : ∃ q, findR lt many from_ = q := ⟨_, rfl⟩
          obtain ⟨a, b⟩ := ab
          rw [hab] at HFI
          have HFA := hid (findR_facts HO9.out.s.nm hab)
          clear hfs HSA HO8 hab HALL
          go_wp2_with fail
          refine HFI.out.mono ?_
          rintro e wh ⟨rfl, hfi⟩
          have HO10 := hid (HO9.out.k0 hfi)
          clear hfi HFI HO9
          go_upto_region 28 with fail
          go_cut [24] (fun s wx => s = .bool true ∧ Hid (OS w wx sb ps cs lt tb pt2 ct2 lt pb N cb lt bx x))
          case first =>
            cases b with
            | false =>
              go_wp2_with fail
              go_meet
              case rel => exact ⟨rfl, HO10⟩
            | true =>
              obtain ⟨q1, q2, q2', q3, q4⟩ := HFA.out.1 rfl
              have HQ3 := hid q3
              have HH1 := hid (has_any sb ps cs lt ⟨a, many⟩ wh HO10.out.s.rs HO10.out.s.nm (by have := HO10.out.s.ln; omega) (by unfold Sp.In; simp only; omega))
              have hge : from_ ≤ a := q1
              by_cases hae : a = from_
              · clear q3 q4
                subst hae
                go_wp2_with fail
                refine HH1.out.mono ?_
                rintro e wi ⟨b1, rfl, hb1, hfh⟩
                obtain rfl : b1 = true := hb1.2 HQ3.out
                have HO11 := hid (HO10.out.k0 hfh)
                clear hb1 hfh HH1
                go_wp2_with fail
                go_meet
                case rel => exact ⟨by simp, HO11⟩
              · have hab2 : (a == from_) = false := by simp; exact hae
                have HQ4 : Hid (¬ HasP lt ⟨a - 1, many⟩) := hid (q4.resolve_left hae)
                have HHK := hid (fun W h => has_any sb ps cs lt ⟨a - 1, many⟩ W h HO10.out.s.nm (by have := HO10.out.s.ln; omega) (by unfold Sp.In; simp only; omega))
                clear q3 q4 hae
                go_wp2_with fail
                refine HH1.out.mono ?_
                rintro e wi ⟨b1, rfl, hb1, hfh⟩
                obtain rfl : b1 = true := hb1.2 HQ3.out
                have HO11 := hid (HO10.out.k0 hfh)
                clear hb1 hfh HH1
                go_wp2_with fail
                refine (HHK.out _ HO11.out.s.rs).mono ?_
                rintro e wj ⟨b2, rfl, hb2, hfh2⟩
                obtain rfl : b2 = false := by
                  cases b2 with
                  | false => rfl
                  | true => exact absurd (hb2.1 rfl) HQ4.out
                have HO12 := hid (HO11.out.k0 hfh2)
                clear hb2 hfh2 HHK
                go_wp2_with fail
                go_meet
                case rel => exact ⟨by simp, HO12⟩
          obtain ⟨rfl, hO12⟩ := hcut
          have HO12 := hid hO12.out
          clear hO12 HO10
          go_wp2_with fail
          go_loopw [25, 26, 8] (fun i s26 s8 wr => ∃ t : Nat, t ≤ N ∧ i = .int .i64 (t : Int) ∧ Hid (OS w wr sb ps cs lt tb pt2 ct2 lt pb N cb lt bx x)) (fun i _ _ _ => N - (intOf i).toNat)
          case atStart => exact ⟨0, Nat.zero_le _, rfl, HO12⟩
          case round =>
            clear HO12
            obtain ⟨t, ht, rfl, ho⟩ := hrel
            by_cases htn : t < N
            · have t9 : (t : Int) < (N : Int) := by omega
              obtain ⟨y, hy⟩ : ∃ y, lt[t]? = some y := ⟨_, List.getElem?_eq_getElem (by rw [HN.out]; exact htn)⟩
              obtain ⟨g, hg, y0, y1⟩ := ho.out.k.at hy
              subst hg
              have hyn := ho.out.s.nm.at hy
              have hye : y.e = y.a + y.m := rfl
              have hwr : IntKind.i64.wrap (y.a + y.m) = y.e := by rw [IntKind.wrap_i64]; omega
              have HFY := hid (fun h1 h2 h3 h4 => HFA.out.2 y (List.mem_of_getElem? hy) h1 h2 h3 h4)
              have HWR := hid hwr
              have HYE := hid hye
              have HYN := hid hyn
              clear hwr hy hye
              obtain ⟨hyn1, hyn2, hyn3⟩ := hyn
              have hyb1 : y.a ≤ 1099511627776 := by have := HYE.out; omega
              have hyb2 : y.m ≤ 1099511627776 := by have := HYE.out; omega
              have hyb3 : y.a + y.m ≤ 1099511627776 := by have := HYE.out; omega
              obtain ⟨lw, hlw⟩ : ∃ q, mx9 y.a from_ = q := ⟨_, rfl⟩
              have HLOW := hid hlw
              have hlwb : y.a ≤ lw ∧ from_ ≤ lw ∧ (lw = y.a ∨ lw = from_) := by rw [← hlw]; exact mx9_ge y.a from_
              have HLWB := hid hlwb
              clear hlw hlwb
              go_upto_if 148 with fail
              go_cut [26] from 135 to 196 (fun s wx => s = .int .i64 lw ∧ wx = wr)
              case first =>
                by_cases hgt : y.a < from_
                · have hgt2 : from_ > y.a := hgt
                  have HE9 : Hid (from_ = lw) := hid (by rw [← HLOW.out]; exact (if_pos hgt).symm)
                  go_wp2_with fail
                  go_meet
                  case rel => exact ⟨by rw [HE9.out], rfl⟩
                · have HE9 : Hid (y.a = lw) := hid (by rw [← HLOW.out]; exact (if_neg hgt).symm)
                  go_wp2_with fail
                  go_meet
                  case rel => exact ⟨by rw [HE9.out], rfl⟩
              obtain ⟨rfl, hwc⟩ := hcut
              have hwr9 := hwc.symm
              clear hwc
              subst hwr9
              have HN2 := hid (fun n => ho.out.k0 ((Frm.refl [] _).drewN n))
              have hlwb1 : lw ≤ 9223372036854775807 ∧ 0 ≤ lw := by have := HLWB.out; omega
              obtain ⟨hlb1, hlb2⟩ := hlwb1
              go_upto_region 35 with fail
              go_cut [196] from 135 to 196 (fun s wx => s = .bool false ∧ Hid (OS w wx sb ps cs lt tb pt2 ct2 lt (some ⟨g, 0, none⟩) N cb lt bx x))
              case first =>
                by_cases c1 : 1 ≤ many
                · have d1 : many ≥ 1 := c1
                  by_cases c2 : 0 ≤ from_
                  · have d2 : from_ ≥ 0 := c2
                    by_cases c3 : lw ≤ y.e
                    · have d3 : decide (lw ≤ IntKind.i64.wrap (y.a + y.m)) = true := by rw [HWR.out]; exact decide_eq_true c3
                      have d3' : decide (lw ≤ y.a + y.m) = true := by rw [← HYE.out]; exact decide_eq_true c3
                      have d3'' : lw ≤ y.a + y.m := by rw [← HYE.out]; exact c3
                      have hsub : IntKind.i64.wrap (IntKind.i64.wrap (y.a + y.m) - lw) = y.e - lw := by rw [HWR.out, IntKind.wrap_i64]; omega
                      by_cases c4 : many ≤ y.e - lw
                      · have d4 : decide (many ≤ IntKind.i64.wrap (IntKind.i64.wrap (y.a + y.m) - lw)) = true := by rw [hsub]; exact decide_eq_true c4
                        have d4' : decide (many ≤ y.a + y.m - lw) = true := by rw [← HYE.out]; exact decide_eq_true c4
                        have d4'' : many ≤ y.a + y.m - lw := by rw [← HYE.out]; exact c4
                        obtain ⟨hb, hle⟩ := HFY.out c1 c2 (by rw [HLOW.out]; exact c3) (by rw [HLOW.out]; exact c4)
                        rw [HLOW.out] at hle
                        subst hb
                        have d5 : decide (lw < a) = false := decide_eq_false (by omega)
                        clear hsub
                        go_quiet (fail)
                        go_wp2_with fail
                        go_meet
                        case rel => exact ⟨by rfl, hid (HN2.out _)⟩
                      · have d4 : decide (many ≤ IntKind.i64.wrap (IntKind.i64.wrap (y.a + y.m) - lw)) = false := by rw [hsub]; exact decide_eq_false c4
                        have d4' : decide (many ≤ y.a + y.m - lw) = false := by rw [← HYE.out]; exact decide_eq_false c4
                        clear hsub c4
                        go_quiet (fail)
                        go_wp2_with fail
                        go_meet
                        case rel => exact ⟨by rfl, hid (HN2.out _)⟩
                    · have d3 : decide (lw ≤ IntKind.i64.wrap (y.a + y.m)) = false := by rw [HWR.out]; exact decide_eq_false c3
                      have d3' : decide (lw ≤ y.a + y.m) = false := by rw [← HYE.out]; exact decide_eq_false c3
                      clear c3
                      go_quiet (fail)
                      go_wp2_with fail
                      go_meet
                      case rel => exact ⟨by rfl, hid (HN2.out _)⟩
                  · have d2 : decide (from_ ≥ 0) = false := decide_eq_false c2
                    have d2' : decide (0 ≤ from_) = false := decide_eq_false c2
                    clear c2
                    go_quiet (fail)
                    go_wp2_with fail
                    go_meet
                    case rel => exact ⟨by rfl, hid (HN2.out _)⟩
                · have d1 : decide (many ≥ 1) = false := decide_eq_false c1
                  have d1' : decide (1 ≤ many) = false := decide_eq_false c1
                  clear c1
                  go_quiet (fail)
                  go_wp2_with fail
                  go_meet
                  case rel => exact ⟨by rfl, hid (HN2.out _)⟩
              obtain ⟨rfl, ho9⟩ := hcut
              go_wp2_with fail
              go_roundw
              case rel => exact ⟨t + 1, by omega, by go_num, hid ho9.out⟩
              case measure => simp [intOf]; omega
            · obtain rfl : N = t := by omega
              go_wp2_with fail
              first | go_returns | skip
              exact ⟨rfl, ho.out.s.mn.1⟩
end Go.Proofs.Ytbgochkmplacaaa
