/- The statement CodeWrites: two writers side by side. -/
import Derived.Test.YtekkdebcklinhaaOneL
import Derived.Test.YtekkdebcklinhaaRefX
namespace Go.Proofs.Ytekkdebcklinhaa
open Go.RowKit
set_option maxRecDepth 100000

/-- Both writers, new since w0, apart from one another and from the blocks of A. -/
def Two (w0 : World) (b1 b2 : Nat) (R : Int) (s1 s2 : List Int × Int) (A : List Nat) (w : World) : Prop :=
  ∃ f1 f2, IsW w b1 f1 R s1.1 s1.2 ∧ IsV w b2 f2 R s2.1 s2.2 ∧ Frm [] w0 w ∧ (∀ k ∈ f1, w0.heap.size ≤ k) ∧ (∀ k ∈ f2, w0.heap.size ≤ k) ∧ (∀ k ∈ f1, k ∉ f2) ∧ (∀ k ∈ A, k ∉ f1 ∧ k ∉ f2 ∧ k < w.heap.size)
theorem IsV.b_mem {w : World} {b : Nat} {fp : List Nat} {room err : Int} {zs : List Int} (h : IsV w b fp room zs err) : b ∈ fp := by obtain ⟨_, _, _, _, rfl, _⟩ := h; simp
theorem IsW.b_mem {w : World} {b : Nat} {fp : List Nat} {room err : Int} {zs : List Int} (h : IsW w b fp room zs err) : b ∈ fp := by obtain ⟨_, _, _, _, rfl, _⟩ := h; simp
theorem Two.frm {w0 w : World} {b1 b2 : Nat} {R : Int} {s1 s2 : List Int × Int} {A : List Nat} (h : Two w0 b1 b2 R s1 s2 A w) : Frm [] w0 w := by obtain ⟨_, _, _, _, h, _⟩ := h; exact h
theorem Two.stepW {w0 w : World} {b1 b2 : Nat} {R : Int} {s1 s2 : List Int × Int} {A : List Nat} {P : Program} {f : FuncId} {args : Array Value} {s' : List Int × Int} (h : Two w0 b1 b2 R s1 s2 A w)
    (hc : ∀ fp, IsW w b1 fp R s1.1 s1.2 → Calls P f args w fun e w' => e = .returned (.tuple #[]) ∧ NowW w b1 fp R s'.1 s'.2 w') :
    Calls P f args w fun e w' => e = .returned (.tuple #[]) ∧ Two w0 b1 b2 R s' s2 A w' ∧ Keeps A w w' := by
  obtain ⟨f1, f2, h1, h2, h3, h4, h5, h6, h7⟩ := h
  refine (hc f1 h1).mono ?_
  rintro e w' ⟨he, fp', g1, g2, g3⟩
  refine ⟨he, ⟨fp', f2, g1, h2.kept g2 (fun k hk hk1 => h6 k hk1 hk), h3.trans g2 (fun i hi hlt => absurd (h4 i hi) (Nat.not_le.2 hlt)), fun k hk => (g3 k hk).elim (h4 k) (fun h => Nat.le_trans h3.size h), h5, fun k hk hk2 => ?_, fun k hk => ⟨fun hk2 => ?_, (h7 k hk).2.1, Nat.lt_of_lt_of_le (h7 k hk).2.2 g2.size⟩⟩, g2.keeps fun k hk => ⟨(h7 k hk).1, (h7 k hk).2.2⟩⟩
  · rcases g3 k hk with h | h
    · exact h6 k h hk2
    · exact absurd (h2.lt k hk2) (Nat.not_lt.2 h)
  · rcases g3 k hk2 with h | h
    · exact (h7 k hk).1 h
    · exact absurd (h7 k hk).2.2 (Nat.not_lt.2 h)
theorem Two.stepV {w0 w : World} {b1 b2 : Nat} {R : Int} {s1 s2 : List Int × Int} {A : List Nat} {P : Program} {f : FuncId} {args : Array Value} {s' : List Int × Int} (h : Two w0 b1 b2 R s1 s2 A w)
    (hc : ∀ fp, IsV w b2 fp R s2.1 s2.2 → Calls P f args w fun e w' => e = .returned (.tuple #[]) ∧ NowV w b2 fp R s'.1 s'.2 w') :
    Calls P f args w fun e w' => e = .returned (.tuple #[]) ∧ Two w0 b1 b2 R s1 s' A w' ∧ Keeps A w w' := by
  obtain ⟨f1, f2, h1, h2, h3, h4, h5, h6, h7⟩ := h
  refine (hc f2 h2).mono ?_
  rintro e w' ⟨he, fp', g1, g2, g3⟩
  refine ⟨he, ⟨f1, fp', h1.kept g2 (fun k hk hk1 => h6 k hk hk1), g1, h3.trans g2 (fun i hi hlt => absurd (h5 i hi) (Nat.not_le.2 hlt)), h4, fun k hk => (g3 k hk).elim (h5 k) (fun h => Nat.le_trans h3.size h), fun k hk hk2 => ?_, fun k hk => ⟨(h7 k hk).1, fun hk2 => ?_, Nat.lt_of_lt_of_le (h7 k hk).2.2 g2.size⟩⟩, g2.keeps fun k hk => ⟨(h7 k hk).2.1, (h7 k hk).2.2⟩⟩
  · rcases g3 k hk2 with h | h
    · exact h6 k hk h
    · exact absurd (h1.lt k hk) (Nat.not_lt.2 h)
  · rcases g3 k hk2 with h | h
    · exact (h7 k hk).2.1 h
    · exact absurd (h7 k hk).2.2 (Nat.not_lt.2 h)
/-- What touches neither. -/
theorem Two.other {w0 w w' : World} {b1 b2 : Nat} {R : Int} {s1 s2 : List Int × Int} {A S : List Nat} (h : Two w0 b1 b2 R s1 s2 A w) (hf : Frm S w w') (hS : ∀ k ∈ S, k ∈ A ∧ w0.heap.size ≤ k) : Two w0 b1 b2 R s1 s2 A w' := by
  obtain ⟨f1, f2, h1, h2, h3, h4, h5, h6, h7⟩ := h
  exact ⟨f1, f2, h1.kept hf (fun k hk hs => (h7 k (hS k hs).1).1 hk), h2.kept hf (fun k hk hs => (h7 k (hS k hs).1).2.1 hk), h3.trans hf (fun i hi hlt => absurd (hS i hi).2 (Nat.not_le.2 hlt)), h4, h5, h6, fun k hk => ⟨(h7 k hk).1, (h7 k hk).2.1, Nat.lt_of_lt_of_le (h7 k hk).2.2 hf.size⟩⟩
/-- A block that is new. -/
theorem Two.more {w0 w w' : World} {b1 b2 : Nat} {R : Int} {s1 s2 : List Int × Int} {A : List Nat} (h : Two w0 b1 b2 R s1 s2 A w) (hf : Frm [] w w') (g : Nat) (hg : w.heap.size ≤ g) (hg2 : g < w'.heap.size) : Two w0 b1 b2 R s1 s2 (g :: A) w' := by
  obtain ⟨f1, f2, h1, h2, h3, h4, h5, h6, h7⟩ := h
  refine ⟨f1, f2, h1.kept hf (by simp), h2.kept hf (by simp), h3.trans hf (by simp), h4, h5, h6, fun k hk => ?_⟩
  simp at hk
  rcases hk with rfl | hk
  · exact ⟨fun h => absurd (h1.lt k h) (Nat.not_lt.2 hg), fun h => absurd (h2.lt k h) (Nat.not_lt.2 hg), hg2⟩
  · exact ⟨(h7 k hk).1, (h7 k hk).2.1, Nat.lt_of_lt_of_le (h7 k hk).2.2 hf.size⟩
theorem Two.fewer {w0 w : World} {b1 b2 : Nat} {R : Int} {s1 s2 : List Int × Int} {A B : List Nat} (h : Two w0 b1 b2 R s1 s2 A w) (hB : ∀ k ∈ B, k ∈ A) : Two w0 b1 b2 R s1 s2 B w := by
  obtain ⟨f1, f2, h1, h2, h3, h4, h5, h6, h7⟩ := h
  exact ⟨f1, f2, h1, h2, h3, h4, h5, h6, fun k hk => h7 k (hB k hk)⟩
/-- Bytes that were there at w0 stand there still. -/
theorem Two.rd {w0 w : World} {b1 b2 : Nat} {R : Int} {s1 s2 : List Int × Int} {A : List Nat} (h : Two w0 b1 b2 R s1 s2 A w) {p : Option Addr} {zs : List Int} (hr : Rd w0 p zs) : Rd w p zs := hr.kept h.frm (by simp)
/-- What a call of the script makes of a writer's state. -/
def callS (R : Int) (s : List Int × Int) (d : CallD) (ns : List Int) : List Int × Int :=
  if d.kind = 0 then stepW R s (numF d.n d.many) else if d.kind = 1 then stepW R s (ns, 0) else if d.kind = 2 then stepW R s (textF d.s) else if d.kind = 3 then stepW R s (padF R s.1.length d.many) else s
theorem stepW_fits {R : Int} {s g : List Int × Int} (h : (s.1.length : Int) ≤ R) : ((stepW R s g).1.length : Int) ≤ R := by
  unfold stepW
  split
  · exact h
  · split
    · exact h
    · split
      · exact h
      · simp; omega
/-- n bytes that may be read and written at p. -/
def Mem (w : World) (p : Option Addr) (n : Nat) : Prop := n = 0 ∨ ∃ g cur, p = some ⟨g, 0, none⟩ ∧ w.heap[g]? = some (.cells cur 5 (0, 0)) ∧ ∀ i, i < n → ∃ z, cur[i]? = some (.int .u8 z)
theorem Own.mem {w : World} {p : Option Addr} {n c : Nat} {zs : List Int} (h : Own w 5 (.slice p n c) zs) : Mem w p zs.length := by
  rcases h.2 with ⟨_, h0⟩ | ⟨g, c', cur, he, _, hg, hc, _, hs, ht⟩
  · exact Or.inl h0
  · simp at he
    obtain ⟨rfl, _, _⟩ := he
    refine Or.inr ⟨g, cur, rfl, hg, fun i hi => ⟨zs.getD i 0, ?_⟩⟩
    have := congrArg (fun l => l[i]?) ht
    simp only [List.getElem?_take, bv_get hi] at this
    rw [if_pos (by omega)] at this
    simpa using this
theorem Mem.kept {S : List Nat} {w w' : World} {p : Option Addr} {n : Nat} (h : Mem w p n) (hf : Frm S w w') (hn : ∀ k ∈ blk p, k ∉ S) : Mem w' p n := by
  rcases h with h | ⟨g, cur, rfl, hg, hc⟩
  · exact Or.inl h
  · exact Or.inr ⟨g, cur, rfl, hf.heap hg (hn g (by simp [blk])), hc⟩
theorem Mem.keeps {A : List Nat} {w w' : World} {p : Option Addr} {n : Nat} (h : Mem w p n) (hf : Keeps A w w') (hn : ∀ k ∈ blk p, k ∈ A) : Mem w' p n := by
  rcases h with h | ⟨g, cur, rfl, hg, hc⟩
  · exact Or.inl h
  · exact Or.inr ⟨g, cur, rfl, (hf g (hn g (by simp [blk]))).trans hg, hc⟩
theorem Mem.at {w : World} {p : Option Addr} {n i : Nat} (h : Mem w p n) (hi : i < n) : ∃ g z, p = some ⟨g, 0, none⟩ ∧ g < w.heap.size ∧ w.cell? ⟨g, i, none⟩ = some (.int .u8 z) ∧ w.frozen? ⟨g, i, none⟩ = false ∧ ∀ z', Mem (w.setCell ⟨g, i, none⟩ (.int .u8 z')) p n := by
  rcases h with h | ⟨g, cur, rfl, hg, hc⟩
  · omega
  · obtain ⟨z, hz⟩ := hc i hi
    refine ⟨g, z, rfl, lt_of_heap hg, (cell_of_row w g i cur _ (0, 0) hg).trans hz, frozen_of_row w g i _ _ hg, fun z' => Or.inr ⟨g, _, rfl, heap_setCell_same w g i _ _ _ hg, fun j hj => ?_⟩⟩
    obtain ⟨y, hy⟩ := hc j hj
    by_cases hij : i = j
    · subst hij
      have := (Array.getElem?_eq_some_iff.1 hy).1
      exact ⟨z', by simp [this]⟩
    · exact ⟨y, by rw [Array.getElem?_setIfInBounds_ne hij]; exact hy⟩
theorem Rd.low {w : World} {p : Option Addr} {zs : List Int} (h : Rd w p zs) (hne : zs ≠ []) : ∀ k ∈ blk p, k < w.heap.size := by
  rcases h with h | ⟨g, o, rfl, hc⟩
  · exact absurd h hne
  · intro k hk
    simp [blk] at hk
    subst hk
    exact World.block_lt_of_cell? w _ (hc 0 (by cases zs with | nil => exact absurd rfl hne | cons _ _ => simp))
theorem Two.mores {w0 w w' : World} {b1 b2 : Nat} {R : Int} {s1 s2 : List Int × Int} {A : List Nat} (h : Two w0 b1 b2 R s1 s2 A w) (hf : Frm [] w w') (B : List Nat) (hB : ∀ k ∈ B, w.heap.size ≤ k ∧ k < w'.heap.size) : Two w0 b1 b2 R s1 s2 (B ++ A) w' := by
  obtain ⟨f1, f2, h1, h2, h3, h4, h5, h6, h7⟩ := h
  refine ⟨f1, f2, h1.kept hf (by simp), h2.kept hf (by simp), h3.trans hf (by simp), h4, h5, h6, fun k hk => ?_⟩
  rw [List.mem_append] at hk
  rcases hk with hk | hk
  · exact ⟨fun h => absurd (h1.lt k h) (Nat.not_lt.2 (hB k hk).1), fun h => absurd (h2.lt k h) (Nat.not_lt.2 (hB k hk).1), (hB k hk).2⟩
  · exact ⟨(h7 k hk).1, (h7 k hk).2.1, Nat.lt_of_lt_of_le (h7 k hk).2.2 hf.size⟩
theorem Own.low {w : World} {E : TypeId} {p : Option Addr} {n c : Nat} {zs : List Int} (h : Own w E (.slice p n c) zs) : ∀ k ∈ blk p, k < w.heap.size := by
  obtain ⟨p', c', he, _, _, hh, _⟩ := h.shape
  simp only [Value.slice.injEq] at he
  obtain ⟨rfl, _, rfl⟩ := he
  intro k hk
  cases p with
  | none => simp [blk] at hk
  | some a => simp [blk] at hk; subst hk; exact (hh a rfl).2.2
theorem Two.b2_new {w0 w : World} {b1 b2 : Nat} {R : Int} {s1 s2 : List Int × Int} {A : List Nat} (h : Two w0 b1 b2 R s1 s2 A w) : w0.heap.size ≤ b2 := by obtain ⟨f1, f2, h1, h2, _, _, h5, _⟩ := h; exact h5 b2 h2.b_mem
theorem Keeps.cell {A : List Nat} {w w' : World} (h : Keeps A w w') {p : Addr} (hp : p.block ∈ A) : w'.cell? p = w.cell? p := World.cell?_of_block (h _ hp)
set_option maxHeartbeats 1600000 in
theorem lays_any (w0 : World) (b1 b2 : Nat) (R : Int) (s : List Int × Int) (d : CallD) (ns : List Int) (w : World) (h : Two w0 b1 b2 R s s [] w) (hr0 : 0 ≤ R) (hr1 : R ≤ 2147483647) (hz : (s.1.length : Int) ≤ R)
    (hn : 0 ≤ d.n ∧ d.n < 18446744073709551616) (hm : -9223372036854775808 ≤ d.many ∧ d.many ≤ 9223372036854775807) (hrd : Rd w0 d.p ns) (hbl : ns.length = d.bl) (hpc : ns = [] → d.p = none → d.bc = 0) (hl : ns.length ≤ 140737488351232) (hs : d.s.size ≤ maxLen) :
    Calls Try.prog 13 #[.pointer (some ⟨b1, 0, none⟩), .pointer (some ⟨b2, 0, none⟩), .agg #[.int .i64 d.kind, .int .u64 d.n, .int .i64 d.many, .slice d.p d.bl d.bc, .string d.s]] w
      fun e w' => e = .returned (.tuple #[]) ∧ Two w0 b1 b2 R (callS R s d ns) (callS R s d ns) [] w' := by
  obtain ⟨dk, dn, dm, dp, dl, dc, ds⟩ := d
  dsimp only at hn hm hrd hbl hpc hs ⊢
  subst hbl
  have H := hid (h.more ((Frm.refl [] w).alloc (.cells #[.int .i64 dk, .int .u64 dn, .int .i64 dm, .slice dp ns.length dc, .string ds] 32)) w.heap.size (Nat.le_refl _) (by simp))
  have hcs : ∀ i v, (#[.int .i64 dk, .int .u64 dn, .int .i64 dm, .slice dp ns.length dc, .string ds] : Array Value)[i]? = some v → (w.alloc (.cells #[.int .i64 dk, .int .u64 dn, .int .i64 dm, .slice dp ns.length dc, .string ds] 32)).cell? ⟨w.heap.size, i, none⟩ = some v := by
    intro i v hv
    rw [cell_of_row _ _ _ _ _ _ (heap_alloc_new w _)]; exact hv
  have c1 := hcs 1 _ rfl
  have c2 := hcs 2 _ rfl
  have c3 := hcs 3 _ rfl
  have c4 := hcs 4 _ rfl
  have HRD := hid hrd
  have HF0 := hid H.out.frm
  have HPC := hid hpc
  clear hcs h hrd hpc
  unfold callS
  dsimp only
  by_cases k0 : dk = 0
  · rw [if_pos k0]
    have hb : (dk == 0) = true := by simpa using k0
    clear k0
    go_enter Try.func13, Try.ntmps13
    go_wp2_with fail
    refine (H.out.stepW (s' := stepW R s (numF dn dm)) fun fp hw => num_any b1 fp R s dn dm _ hw hr0 hr1 hz hn.1 hn.2 hm.1 hm.2).mono ?_
    rintro e w1 ⟨rfl, ht, hk⟩
    have H1 := hid ht
    replace c1 := (hk.cell (p := ⟨w.heap.size, 1, none⟩) (by simp)).trans c1
    replace c2 := (hk.cell (p := ⟨w.heap.size, 2, none⟩) (by simp)).trans c2
    clear ht hk
    go_wp2_with fail
    refine (H1.out.stepV (s' := stepW R s (numF dn dm)) fun fp hw => vnum_any b2 fp R s dn dm _ hw hr0 hr1 hz hn.1 hn.2).mono ?_
    rintro e w2 ⟨rfl, ht, hk⟩
    have H2 := hid ht
    clear ht hk
    go_wp2_with fail
    go_returns
    exact ⟨rfl, H2.out.fewer (by simp)⟩
  · rw [if_neg k0]
    have hb : (dk == 0) = false := by simpa using k0
    clear k0
    by_cases k1 : dk = 1
    · rw [if_pos k1]
      have hb1 : (dk == 1) = true := by simpa using k1
      clear k1
      go_enter Try.func13, Try.ntmps13
      go_wp2_with (at_builtin; refine wpList_appB rfl _ _ 30 rfl 5 Try.underlying30 infoE none 0 0 [] rfl rfl (Own.nil _ _) dp ns.length dc ns rfl rfl HPC.out ((HRD.out.kept HF0.out (by simp))) (by simp; omega) ?_)
      intro xs p2 cq w1 hxs ho1 hf1 hfr1
      have hx : xs = ns := hxs.out
      subst xs
      have hcl := ho1.out.low
      obtain ⟨_, _, he2, _, hpn, _, _⟩ := ho1.out.shape
      simp only [Value.slice.injEq, true_and] at he2
      obtain ⟨rfl, rfl⟩ := he2
      have hpn2 : ns = [] → p2 = none → cq = 0 := fun _ h => (hpn h).2
      have HPN := hid hpn2
      have hf1' : Frm [] (w.alloc (.cells #[.int .i64 dk, .int .u64 dn, .int .i64 dm, .slice dp ns.length dc, .string ds] 32)) w1 := hf1.out
      have hnew : ∀ k ∈ blk p2, w.heap.size + 1 ≤ k := fun k hk => (hfr1.out k hk).elim (fun h => by simp [blk] at h) id
      have H1 := hid (H.out.mores hf1' (blk p2) fun k hk => ⟨by have := hnew k hk; simpa using this, hcl k hk⟩)
      have HNEW := hid hnew
      replace c3 := (hf1'.cell (p := ⟨w.heap.size, 3, none⟩) (by simp) (by simp)).trans c3
      clear hcl hpn hpn2 hf1' hnew c1 c2 c4
      go_wp2_with fail
      refine (H1.out.stepW (s' := stepW R s (ns, 0)) fun fp hw => bytes_any b1 fp R s p2 ns cq _ hw hr0 hr1 hz (by omega) HPN.out ho1.out.rd).mono ?_
      rintro e w2 ⟨rfl, ht, hk⟩
      have H2 := hid ht
      have HM2 := hid (ho1.out.mem.keeps hk (by intro k hk; simp [hk]))
      replace c3 := (hk.cell (p := ⟨w.heap.size, 3, none⟩) (by simp)).trans c3
      have C3 := hid c3
      clear ht hk c3
      go_wp2_with fail
      go_loopw [7] (fun i wr => ∃ j : Nat, j ≤ ns.length ∧ i = .int .i64 j ∧ Hid (Two w0 b1 b2 R (stepW R s (ns, 0)) s (blk p2 ++ [w.heap.size]) wr) ∧ Hid (Mem wr p2 ns.length) ∧ Hid (wr.cell? ⟨w.heap.size, 3, none⟩ = some (.slice dp ns.length dc))) (fun i _ => ns.length - (intOf i).toNat)
      case atStart => exact ⟨0, Nat.zero_le _, rfl, H2, HM2, C3⟩
      case round =>
        obtain ⟨j, hj, rfl, h2, hm2, k3⟩ := hrel
        by_cases hlt : j < ns.length
        · obtain ⟨g, z, rfl, hgl, hgc, hgf, hgs⟩ := hm2.out.at hlt
          have hgn := HNEW.out g (by simp [blk])
          have HGS := hid hgs
          clear hgs
          go_wp2_with fail
          go_roundw
          case rel =>
            have hfs : Frm [g] wr (wr.setCell ⟨g, j, none⟩ (.int .u8 ((z + 1) % 256))) := (Frm.refl _ _).setCell _ _ (by simp)
            have hs0 := HF0.out.size
            refine ⟨j + 1, by omega, by go_num, h2.out.other hfs (fun k hk => ?_), HGS.out _, (hfs.cell (p := ⟨w.heap.size, 3, none⟩) (by simp only; omega) (by simp only [List.mem_singleton]; omega)).trans k3.out⟩
            simp only [List.mem_singleton] at hk
            subst hk
            exact ⟨by simp [blk], by simp at hs0; omega⟩
          case measure => simp [intOf]; omega
        · obtain rfl : j = ns.length := by omega
          have kk := k3.out
          go_wp2_with fail
          refine (h2.out.stepV (s' := stepW R s (ns, 0)) fun fp hw => vbytes_any b2 fp R s dp dc ns _ hw hr0 hr1 hz (by omega) HPC.out (h2.out.rd HRD.out) (fun hne hb => Nat.not_le.2 (HRD.out.low hne _ hb) h2.out.b2_new)).mono ?_
          rintro e w3 ⟨rfl, ht, _⟩
          have H3 := hid ht
          clear ht
          go_wp2_with fail
          go_returns
          exact ⟨rfl, H3.out.fewer (by simp)⟩
    · rw [if_neg k1]
      have hb1 : (dk == 1) = false := by simpa using k1
      clear k1
      by_cases k2 : dk = 2
      · rw [if_pos k2]
        have hb2 : (dk == 2) = true := by simpa using k2
        clear k2
        go_enter Try.func13, Try.ntmps13
        go_wp2_with fail
        refine (H.out.stepW (s' := stepW R s (textF ds)) fun fp hw => text_any b1 fp R s ds _ hw hr0 hr1 hz hs).mono ?_
        rintro e w1 ⟨rfl, ht, hk⟩
        have H1 := hid ht
        replace c4 := (hk.cell (p := ⟨w.heap.size, 4, none⟩) (by simp)).trans c4
        clear ht hk
        go_wp2_with fail
        refine (H1.out.stepV (s' := stepW R s (textF ds)) fun fp hw => vtext_any b2 fp R s ds _ hw hr0 hr1 hz hs).mono ?_
        rintro e w2 ⟨rfl, ht, hk⟩
        have H2 := hid ht
        clear ht hk
        go_wp2_with fail
        go_returns
        exact ⟨rfl, H2.out.fewer (by simp)⟩
      · rw [if_neg k2]
        have hb2 : (dk == 2) = false := by simpa using k2
        clear k2
        by_cases k3 : dk = 3
        · rw [if_pos k3]
          have hb3 : (dk == 3) = true := by simpa using k3
          clear k3
          go_enter Try.func13, Try.ntmps13
          go_wp2_with fail
          refine (H.out.stepW (s' := stepW R s (padF R s.1.length dm)) fun fp hw => pad_any b1 fp R s dm _ hw hr0 hr1 hz).mono ?_
          rintro e w1 ⟨rfl, ht, hk⟩
          have H1 := hid ht
          replace c2 := (hk.cell (p := ⟨w.heap.size, 2, none⟩) (by simp)).trans c2
          clear ht hk
          go_wp2_with fail
          refine (H1.out.stepV (s' := stepW R s (padF R s.1.length dm)) fun fp hw => vpad_any b2 fp R s dm _ hw hr0 hr1 hz hm.1 hm.2).mono ?_
          rintro e w2 ⟨rfl, ht, hk⟩
          have H2 := hid ht
          clear ht hk
          go_wp2_with fail
          go_returns
          exact ⟨rfl, H2.out.fewer (by simp)⟩
        · rw [if_neg k3]
          have hb3 : (dk == 3) = false := by simpa using k3
          clear k3
          go_enter Try.func13, Try.ntmps13
          go_wp2_with fail
          go_returns
          exact ⟨rfl, H.out.fewer (by simp)⟩
end Go.Proofs.Ytekkdebcklinhaa
