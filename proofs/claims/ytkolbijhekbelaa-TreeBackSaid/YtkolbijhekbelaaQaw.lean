/- Contracts of the document's reader (layer 1). Contracts of the document's reader (layer 1): numbers. -/
import Derived.Test.YtkolbijhekbelaaQav
namespace Go.Proofs.Ytkolbijhekbelaa
section
open Go.RowKit
set_option maxRecDepth 100000

/-- A plain reader at block b: its bytes lie at p, it stands at pos; its error. -/
def IsQ (w : World) (b : Nat) (p : Option Addr) (c : Nat) (bs : List Int) (pos : Nat) (err : Int) : Prop :=
  w.heap[b]? = some (.cells #[.slice p bs.length c, .int .i64 pos, .int .i64 err] 90 (0, 0)) ∧ Own w 5 (.slice p bs.length c) bs ∧ b ∉ blk p ∧ pos ≤ bs.length ∧ bs.length ≤ 140737488351232
theorem IsQ.kept {w w' : World} {b c pos : Nat} {p : Option Addr} {S : List Nat} {err : Int} {bs : List Int} (h : IsQ w b p c bs pos err) (hf : Frm S w w') (hb : b ∉ S) (hp : ∀ k ∈ blk p, k ∉ S) : IsQ w' b p c bs pos err :=
  ⟨hf.heap h.1 hb, h.2.1.kept hf (fun k hk => hp k (by rwa [own_blk] at hk)), h.2.2⟩
theorem IsQ.cells {w : World} {b c pos : Nat} {p : Option Addr} {err : Int} {bs : List Int} (h : IsQ w b p c bs pos err) : b < w.heap.size ∧ b ∉ blk p ∧ pos ≤ bs.length ∧ bs.length ≤ 140737488351232 ∧
    w.cell? ⟨b, 0, none⟩ = some (.slice p bs.length c) ∧ w.cell? ⟨b, 1, none⟩ = some (.int .i64 pos) ∧ w.cell? ⟨b, 2, none⟩ = some (.int .i64 err) ∧
    w.frozen? ⟨b, 1, none⟩ = false ∧ w.frozen? ⟨b, 2, none⟩ = false ∧ Rd w p bs ∧ bs.length ≤ c ∧ (p = none → bs = [] ∧ c = 0) ∧ (∀ a, p = some a → a.off = 0 ∧ a.spot = none) := by
  obtain ⟨h1, h2, h3, h4, h5⟩ := h
  obtain ⟨p', c', he, hc, hn, hh, _⟩ := h2.shape
  simp only [Value.slice.injEq, true_and] at he
  obtain ⟨rfl, rfl⟩ := he
  exact ⟨lt_of_heap h1, h3, h4, h5, by rw [cell_of_row w _ _ _ _ _ h1]; rfl, by rw [cell_of_row w _ _ _ _ _ h1]; rfl, by rw [cell_of_row w _ _ _ _ _ h1]; rfl, frozen_of_row w b 1 _ _ h1, frozen_of_row w b 2 _ _ h1, h2.rd, hc, hn, fun a ha => ⟨(hh a ha).1, (hh a ha).2.1⟩⟩
theorem IsQ.setPos {w : World} {b c pos : Nat} {p : Option Addr} {err : Int} {bs : List Int} (h : IsQ w b p c bs pos err) {n : Nat} (hn : n ≤ bs.length) : IsQ (w.setCell ⟨b, 1, none⟩ (.int .i64 n)) b p c bs n err := by
  obtain ⟨h1, h2, h3, h4, h5⟩ := h
  refine ⟨?_, h2.kept ((Frm.refl [b] w).setCell _ _ (by simp)) (by rw [own_blk]; intro k hk; simp; rintro rfl; exact h3 hk), h3, hn, h5⟩
  rw [heap_setCell_same w b 1 _ _ _ h1]; rfl
theorem IsQ.setErr {w : World} {b c pos : Nat} {p : Option Addr} {err : Int} {bs : List Int} (h : IsQ w b p c bs pos err) (ev : Int) : IsQ (w.setCell ⟨b, 2, none⟩ (.int .i64 ev)) b p c bs pos ev := by
  obtain ⟨h1, h2, h3, h4, h5⟩ := h
  refine ⟨?_, h2.kept ((Frm.refl [b] w).setCell _ _ (by simp)) (by rw [own_blk]; intro k hk; simp; rintro rfl; exact h3 hk), h3, h4, h5⟩
  rw [heap_setCell_same w b 2 _ _ _ h1]; rfl
set_option maxHeartbeats 800000 in
theorem open_any (p : Option Addr) (c : Nat) (bs : List Int) (w : World) (hrd : Rd w p bs) (hpc : bs = [] → p = none → c = 0) (hl : bs.length ≤ 140737488351232) :
    Calls Try.prog 43 #[.slice p bs.length c] w fun e w' => ∃ b p' c', e = .returned (.pointer (some ⟨b, 0, none⟩)) ∧ IsQ w' b p' c' bs 0 0 ∧ Frm [] w w' ∧ w.heap.size ≤ b ∧ ∀ k ∈ blk p', w.heap.size ≤ k := by
  have HR := hid hrd
  have HPC := hid hpc
  clear hrd hpc
  go_enter Try.func43, Try.ntmps43
  go_wp2_with (at_builtin; refine wpList_appB rfl _ _ 22 rfl 5 Try.underlying22 infoE none 0 0 [] rfl rfl (Own.nil _ _) p bs.length c bs rfl rfl HPC.out HR.out (by simp; omega) ?_)
  intro xs p2 cq w1 hxs ho1 hf1 hfr1
  have hx : xs = bs := hxs.out
  subst xs
  go_wp2_with fail
  go_returns
  have hnew : ∀ k ∈ blk p2, w.heap.size ≤ k := fun k hk => (hfr1.out k hk).elim (fun h => by simp [blk] at h) id
  have hff : Frm [] w (w1.alloc (.cells #[.slice p2 bs.length cq, .int .i64 0, .int .i64 0] 90)) := Frm.alloc (S := []) hf1.out _
  refine ⟨w1.heap.size, rfl, p2, ⟨cq, heap_alloc_new _ _, ho1.out.kept ((Frm.refl [] w1).alloc _) (by simp), fun h => Nat.lt_irrefl _ (ho1.out.low _ h), Nat.zero_le _, hl⟩, hff, Frm.size hf1.out, hnew⟩
theorem step_appB {P : Program} {w : World} {ops : Array Oper} {o : Oper} {a : Act} {K : Act → World → Prop} {Q : Exit → Act → World → Prop} {Z : Prop} (hgd : o.guard = none) (sl x : Operand) (t : TypeId)
    (ho : o.op = .call { callee := .builtin .append, args := #[sl, x], argTypes := #[t, t] })
    (E : TypeId) (ht : P.underlying t = some (.slice E)) (hI : (P.info? E).map (fun i => (i.zero, i.size, i.bytes)) = some (some (.int .u8 0), 1, 1))
    (p0 : Option Addr) (n0 c0 : Nat) (zs : List Int) (hs : a.eval sl = .slice p0 n0 c0) (hn0 : n0 = zs.length) (hown : Own w E (.slice p0 zs.length c0) zs)
    (p : Option Addr) (n c : Nat) (ns : List Int) (hx : a.eval x = .slice p n c) (hn : n = ns.length) (hp : ns = [] → p = none → c = 0) (hrd : Rd w p ns) (hsz : zs.length + ns.length ≤ 140737488355328)
    (h : ∀ xs p2 c2 w', Hid (xs = zs ++ ns) → Hid (Own w' E (.slice p2 xs.length c2) xs) → Hid (Frm (blk p0) w w') → Hid (∀ k ∈ blk p2, k ∈ blk p0 ∨ w.heap.size ≤ k) → K (a.put o.dst (.slice p2 xs.length c2)) w') :
    if Region.wanted o (yielded ops a.tmps) = true then Oper.wp P o a w K Q else Z := by
  have hw : Region.wanted o (yielded ops a.tmps) = true := by simp [Region.wanted, hgd]
  rw [if_pos hw]
  subst hn
  subst hn0
  obtain ⟨v', w', hrun, h1, h2, h3⟩ := run_appB (P := P) (w := w) t o.type E ht hI _ zs hown p c ns hp hrd hsz
  obtain ⟨xs, hxs⟩ : ∃ xs, xs = zs ++ ns := ⟨_, rfl⟩
  rw [← hxs] at h1
  obtain ⟨p2, c2, rfl, _, _, _, hb⟩ := h1.shape
  rw [hb, own_blk] at h3
  rw [own_blk] at h2
  unfold Oper.wp
  simp [execOp, ho, resolve, invoke, builtin, hs, hx, hrun, Result.andThen]
  exact h xs p2 c2 w' hxs h1 h2 h3
set_option maxHeartbeats 800000 in
theorem qbytes_any (b c pos : Nat) (p : Option Addr) (bs : List Int) (err k : Int) (w : World) (hw : IsQ w b p c bs pos err) (hk : -9223372036854775808 ≤ k) (hk2 : k ≤ 9223372036854775807) :
    Calls Try.prog 58 #[.pointer (some ⟨b, 0, none⟩), .int .i64 k] w fun e w' => ∃ p' n c', e = .returned (.slice p' n c') ∧ n = (readS [] pos err (bytesT (bs.drop pos) k)).1.length ∧ Own w' 5 (.slice p' n c') (readS [] pos err (bytesT (bs.drop pos) k)).1 ∧ (∀ k ∈ blk p', w.heap.size ≤ k) ∧
      IsQ w' b p c bs (readS [] pos err (bytesT (bs.drop pos) k)).2.1 (readS [] pos err (bytesT (bs.drop pos) k)).2.2 ∧ Frm [b] w w' := by
  obtain ⟨hlt, hnb, hpos, hlen, c0, c1, c2, f1, f2, hrd, hcl, hpn, hoff⟩ := hw.cells
  have HW := hid hw
  have HR := hid hrd
  have HPN := hid hpn
  have HOFF := hid hoff
  clear hw hrd hpn hoff
  by_cases he : err = 0
  · subst he
    have hb : ((0 : Int) != 0) = false := rfl
    rw [readS_ok]
    by_cases hk0 : k < 0
    · have e : bytesT (bs.drop pos) k = ([], 0, 1) := by unfold bytesT; rw [if_pos hk0]
      rw [e]
      go_enter Try.func58, Try.ntmps58
      go_wp2_with fail
      go_returns
      exact ⟨none, 0, 0, rfl, rfl, Own.nil _ _, by simp [blk], HW.out.setErr 1, (Frm.refl _ _).setCell _ _ (by simp)⟩
    · by_cases h2 : ((bs.drop pos).length : Int) < k
      · have e : bytesT (bs.drop pos) k = ([], 0, 10) := by unfold bytesT; rw [if_neg hk0, if_pos h2]
        rw [e]
        have h2' : (bs.length : Int) - pos < k := by simp only [List.length_drop] at h2; omega
        clear h2
        go_enter Try.func58, Try.ntmps58
        go_wp2_with fail
        go_quiet (fail)
        go_wp2_with fail
        go_returns
        exact ⟨none, 0, 0, rfl, rfl, Own.nil _ _, by simp [blk], (HW.out.kept ((Frm.refl [] w).drewN nq) (by simp) (by simp)).setErr 10, ((Frm.refl [] w).drewN nq |>.mono (by simp)).setCell _ _ (by simp)⟩
      · have e : bytesT (bs.drop pos) k = ((bs.drop pos).take k.toNat, k.toNat, 0) := by unfold bytesT; rw [if_neg hk0, if_neg h2]
        rw [e]
        obtain ⟨j, rfl⟩ : ∃ j : Nat, k = (j : Int) := ⟨k.toNat, by omega⟩
        simp only [Int.toNat_natCast, if_true]
        have h2' : ¬ (bs.length : Int) - pos < (j : Int) := by simp only [List.length_drop] at h2; omega
        clear h2
        go_enter Try.func58, Try.ntmps58
        go_wp2_with fail
        go_quiet (fail)
        cases p with
        | none =>
          obtain ⟨rfl, rfl⟩ := HPN.out rfl
          simp only [List.length_nil] at hpos h2' c0 HW hcl hlen
          obtain rfl : pos = 0 := by omega
          obtain rfl : j = 0 := by omega
          have hw1 : IntKind.i64.wrap (((0 : Nat) : Int) + ((0 : Nat) : Int)) = 0 := by decide
          simp only [Int.natCast_zero] at c1 hw1
          have hw2 : IntKind.i64.wrap ((0 : Int) + ((0 : Nat) : Int)) = 0 := by decide
          have hw3 : IntKind.i64.wrap 0 = 0 := by decide
          go_wp2_with fail
          go_region_held3 (fun w' => w'.cell? ⟨b, 0, none⟩ = some (.slice none 0 0) ∧ w'.cell? ⟨b, 1, none⟩ = some (.int .i64 0)) (first | go_keep | (exact ⟨c0, c1⟩) | (exact ⟨(hF2.out.cell (p := ⟨b, 0, none⟩) hlt List.not_mem_nil).trans c0, (hF2.out.cell (p := ⟨b, 1, none⟩) hlt List.not_mem_nil).trans c1⟩)) ((refine step_appB (by rfl) _ _ 22 (by rfl) 5 Try.underlying22 infoE none 0 0 [] (by rfl) (by rfl) (Own.nil _ _) none 0 0 [] (by rfl) (by rfl) (fun _ _ => rfl) (Rd.nil _ _) (by simp) ?_; intro xs p2 cq w2 hxs ho hF2 hfr))
          have hx : xs = [] := hxs.out
          subst xs
          have F2 : Frm [] w w2 := ((Frm.refl [] w).drewN (nq + 1)).trans (T := []) hF2.out (by simp)
          have F2' := hid F2
          have hnw : ∀ k ∈ blk p2, w.heap.size ≤ k := fun k hk => (hfr.out k hk).elim (fun h => by simp [blk] at h) id
          have hnb2 : b ∉ blk p2 := fun h => Nat.not_lt.2 (hnw b h) hlt
          have HNW := hid hnw
          have HNB := hid hnb2
          clear hnw hnb2 hw1 hw2 hw3
          have q1 := (F2.cell (p := ⟨b, 1, none⟩) hlt List.not_mem_nil).trans c1
          have qf := (F2.frozen (p := ⟨b, 1, none⟩) hlt List.not_mem_nil).trans f1
          clear F2
          go_wp2_with fail
          go_returns
          have hq := (HW.out.kept F2'.out (by simp) (by simp)).setPos (n := 0) (Nat.le_refl _)
          exact ⟨p2, _, cq, rfl, rfl, ho.out.kept ((Frm.refl [b] w2).setCell _ _ (by simp)) (by rw [own_blk]; intro k hk; simp only [List.mem_singleton]; rintro rfl; exact HNB.out hk), HNW.out, hq, (F2'.out.mono (by simp)).setCell _ _ (by simp)⟩
        | some a =>
          obtain ⟨g, o, sp⟩ := a
          obtain ⟨ho, hs⟩ := HOFF.out _ rfl
          simp only at ho hs
          subst ho hs
          have hpj : pos + j ≤ bs.length := by omega
          have hll : ((bs.drop pos).take j).length = j := by simp only [List.length_take, List.length_drop]; omega
          have hrd2 : Rd w (if c = pos then (some ⟨g, 0, none⟩ : Option Addr) else some ⟨g, pos, none⟩) ((bs.drop pos).take j) := by
            by_cases hcp : c = pos
            · exact Or.inl (List.eq_nil_of_length_eq_zero (by rw [hll]; omega))
            · rw [if_neg hcp]
              have := (HR.out.drop pos).take j
              rwa [Nat.zero_add] at this
          have hp1 : (bs.drop pos).take j = [] → (if c = pos then (some ⟨g, 0, none⟩ : Option Addr) else some ⟨g, pos, none⟩) = none → c - pos = 0 := fun _ h => by split at h <;> cases h
          have hn1 : ((pos : Int) + (j : Int)).toNat - pos = ((bs.drop pos).take j).length := by rw [hll]; omega
          have hs1 : ([] : List Int).length + ((bs.drop pos).take j).length ≤ 140737488355328 := by rw [hll]; simp; omega
          obtain ⟨zs, hzs⟩ : ∃ zs, (bs.drop pos).take j = zs := ⟨_, rfl⟩
          rw [hzs] at hrd2 hp1 hn1 hs1 hll
          have HRD2 := hid hrd2
          have HP1 := hid hp1
          have HN1 := hid hn1
          have HS1 := hid hs1
          have HLL := hid hll
          have HZS := hid hzs
          clear hrd2 hp1 hn1 hs1 hll
          have hw1 : IntKind.i64.wrap ((pos : Int) + (j : Int)) = (pos : Int) + (j : Int) := IntWalk.i64_in _ (by omega)
          have b1 : (0 : Int) ≤ (pos : Int) := by omega
          have b2 : (pos : Int) ≤ (pos : Int) + (j : Int) := by omega
          have b3 : (pos : Int) + (j : Int) ≤ (c : Int) := by omega
          clear hzs
          go_wp2_with fail
          go_region_held3 (fun w' => w'.cell? ⟨b, 0, none⟩ = some (.slice (some ⟨g, 0, none⟩) bs.length c) ∧ w'.cell? ⟨b, 1, none⟩ = some (.int .i64 pos)) (first | go_keep | (exact ⟨c0, c1⟩) | (exact ⟨(hF2.out.cell (p := ⟨b, 0, none⟩) hlt List.not_mem_nil).trans c0, (hF2.out.cell (p := ⟨b, 1, none⟩) hlt List.not_mem_nil).trans c1⟩)) ((refine step_appB (by rfl) _ _ 22 (by rfl) 5 Try.underlying22 infoE none 0 0 [] (by rfl) (by rfl) (Own.nil _ _) (if c = pos then (some ⟨g, 0, none⟩ : Option Addr) else some ⟨g, pos, none⟩) (((pos : Int) + (j : Int)).toNat - pos) (c - pos) zs (by rfl) HN1.out HP1.out HRD2.out HS1.out ?_; intro xs p2 cq w2 hxs ho hF2 hfr))
          clear hw1 b1 b2 b3
          have hx : xs = zs := hxs.out
          subst xs
          have F2 : Frm [] w w2 := (((Frm.refl [] w).drewN nq).drew).trans (T := []) hF2.out (by simp)
          have F2' := hid F2
          have hnw : ∀ k ∈ blk p2, w.heap.size ≤ k := fun k hk => (hfr.out k hk).elim (fun h => by simp [blk] at h) id
          have hnb2 : b ∉ blk p2 := fun h => Nat.not_lt.2 (hnw b h) hlt
          have HNW := hid hnw
          have HNB := hid hnb2
          generalize (if c = pos then (some ⟨g, 0, none⟩ : Option Addr) else some ⟨g, pos, none⟩) = pp
          clear hnw hnb2 HRD2 HP1
          have q1 := (F2.cell (p := ⟨b, 1, none⟩) hlt List.not_mem_nil).trans c1
          have qf := (F2.frozen (p := ⟨b, 1, none⟩) hlt List.not_mem_nil).trans f1
          clear F2
          go_wp2_with fail
          go_returns
          have hq := (HW.out.kept F2'.out (by simp) (by simp)).setPos (n := pos + j) hpj
          rw [Int.natCast_add] at hq
          rw [HZS.out]
          exact ⟨p2, _, cq, rfl, rfl, ho.out.kept ((Frm.refl [b] w2).setCell _ _ (by simp)) (by rw [own_blk]; intro k hk; simp only [List.mem_singleton]; rintro rfl; exact HNB.out hk), HNW.out, hq, (F2'.out.mono (by simp)).setCell _ _ (by simp)⟩
  · rw [readS_err _ _ _ _ he]
    have hb : (err != 0) = true := by simpa using he
    go_enter Try.func58, Try.ntmps58
    go_wp2_with fail
    go_returns
    exact ⟨none, 0, 0, rfl, rfl, Own.nil _ _, by simp [blk], HW.out.kept (Frm.refl [] _) (by simp) (by simp), Frm.refl _ _⟩
end
section
open Go.RowKit
set_option maxRecDepth 100000

set_option maxHeartbeats 400000 in
theorem qvalue_any (p : Option Addr) (c : Nat) (zs : List Int) (hz : ∀ z ∈ zs, 0 ≤ z ∧ z < 256) (hl : zs.length ≤ 8) (w : World) (hrd : Rd w p zs) :
    Calls Try.prog 59 #[.slice p zs.length c] w fun e w' => e = .returned (.int .u64 (leV zs)) ∧ Frm [] w w' := by
  have HR : Hid (∀ i, i < zs.length → ∃ g o, p = some ⟨g, o, none⟩ ∧ w.cell? ⟨g, o + i, none⟩ = some (.int .u8 (zs.getD i 0))) := by
    intro i hi
    rcases hrd with h | ⟨g, o, h1, h2⟩
    · subst h; simp at hi
    · exact ⟨g, o, h1, h2 i hi⟩
  have HZ := hid hz
  clear hrd hz
  go_enter Try.func59, Try.ntmps59
  go_wp2_with fail
  go_loopw [3, 4] (fun v i wr => ∃ j : Nat, j ≤ zs.length ∧ i = .int .i64 ((j : Int) - 1) ∧ v = .int .u64 (leV (zs.drop j)) ∧ Hid (Frm [] w wr)) (fun _ i _ => (intOf i + 1).toNat)
  case atStart => exact ⟨zs.length, Nat.le_refl _, rfl, by rw [List.drop_length]; rfl, Frm.refl _ _⟩
  case round =>
    obtain ⟨j, hj, rfl, rfl, hfr⟩ := hrel
    cases j with
    | zero =>
      go_wp2_with fail
      go_returns
      exact ⟨by rw [List.drop_zero]; rfl, hfr.out⟩
    | succ i =>
      have hlt : i < zs.length := by omega
      obtain ⟨g, o, rfl, hc⟩ := HR.out i hlt
      have hx := HZ.out (zs.getD i 0) (by simp [List.getD, hlt])
      have hdr : leV (zs.drop i) = zs.getD i 0 + 256 * leV (zs.drop (i + 1)) := by
        rw [List.drop_eq_getElem_cons hlt, leV]; simp [List.getD, hlt]
      have HDR := hid hdr
      have hB := leV_bd (zs.drop (i + 1)) (fun z hz => HZ.out z (List.mem_of_mem_drop hz))
      have hpw : (2 : Int) ^ (8 * (zs.drop (i + 1)).length) ≤ 2 ^ 56 := by
        have := Nat.pow_le_pow_right (n := 2) (by decide) (show 8 * (zs.drop (i + 1)).length ≤ 56 by simp only [List.length_drop]; omega)
        exact_mod_cast this
      have hbd : leV (zs.drop (i + 1)) < 72057594037927936 := by have := hB.2; omega
      have hb0 := hB.1
      clear hdr hB hpw
      obtain ⟨x, hxx⟩ : ∃ x, zs.getD i 0 = x := ⟨_, rfl⟩
      rw [hxx] at hc hx HDR
      obtain ⟨v, hv⟩ : ∃ v, leV (zs.drop (i + 1)) = v := ⟨_, rfl⟩
      rw [hv] at hbd hb0 HDR ⊢
      clear hxx hv
      have hc' := (hfr.out.cell (p := ⟨g, o + i, none⟩) (World.block_lt_of_cell? w _ hc) (by simp)).trans hc
      have hi1 : ((i + 1 : Nat) : Int) - 1 = (i : Int) := by omega
      rw [hi1]
      clear hi1
      go_wp2_with fail
      go_roundw
      case rel => exact ⟨i, by omega, rfl, by rw [HDR.out, Int.add_comm], hfr⟩
      case measure => simp [intOf]
theorem numT_bytesT (ls : List Int) (k : Int) (h1 : ¬ k < 1) (h2 : ¬ 8 < k) : numT ls k = (leV (bytesT ls k).1, (bytesT ls k).2.1, (bytesT ls k).2.2) := by
  unfold numT bytesT
  rw [if_neg (show ¬ (k < 1 ∨ 8 < k) by omega), if_neg (show ¬ k < 0 by omega)]
  split <;> rfl
theorem bytesT_of (ls : List Int) (k : Int) : ∃ n, (bytesT ls k).1 = ls.take n ∧ ((bytesT ls k).1.length : Int) ≤ max k 0 := by
  unfold bytesT
  split
  · exact ⟨0, by simp; omega⟩
  · split
    · exact ⟨0, by simp; omega⟩
    · exact ⟨k.toNat, rfl, by simp only [List.length_take]; omega⟩
set_option maxHeartbeats 800000 in
theorem qnum_any (b c pos : Nat) (p : Option Addr) (bs : List Int) (hb : ∀ z ∈ bs, 0 ≤ z ∧ z < 256) (err k : Int) (w : World) (hw : IsQ w b p c bs pos err) (hk : -9223372036854775808 ≤ k) (hk2 : k ≤ 9223372036854775807) :
    Calls Try.prog 44 #[.pointer (some ⟨b, 0, none⟩), .int .i64 k] w fun e w' => e = .returned (.int .u64 (readS 0 pos err (numT (bs.drop pos) k)).1) ∧
      IsQ w' b p c bs (readS 0 pos err (numT (bs.drop pos) k)).2.1 (readS 0 pos err (numT (bs.drop pos) k)).2.2 ∧ Frm [b] w w' := by
  obtain ⟨hlt, hnb, hpos, hlen, c0, c1, c2, f1, f2, _⟩ := hw.cells
  have HW := hid hw
  have HB := hid hb
  clear hw hb
  by_cases he : err = 0
  · subst he
    have hb0 : ((0 : Int) != 0) = false := rfl
    rw [readS_ok]
    by_cases h1 : k < 1 ∨ 8 < k
    · have e : numT (bs.drop pos) k = (0, 0, 1) := by unfold numT; rw [if_pos h1]
      rw [e]
      by_cases h2 : k < 1
      · clear h1
        go_enter Try.func44, Try.ntmps44
        go_wp2_with fail
        go_returns
        exact ⟨rfl, HW.out.setErr 1, (Frm.refl _ _).setCell _ _ (by simp)⟩
      · have h3 : 8 < k := by omega
        clear h1
        go_enter Try.func44, Try.ntmps44
        go_wp2_with fail
        go_returns
        exact ⟨rfl, HW.out.setErr 1, (Frm.refl _ _).setCell _ _ (by simp)⟩
    · have h2 : ¬ k < 1 := by omega
      have h3 : ¬ 8 < k := by omega
      have HS := hid (qbytes_any b c pos p bs 0 k w HW.out hk hk2)
      rw [readS_ok] at HS
      rw [numT_bytesT _ _ h2 h3]
      obtain ⟨m, hm1, hm2⟩ := bytesT_of (bs.drop pos) k
      have hzz : ∀ z ∈ (bytesT (bs.drop pos) k).1, 0 ≤ z ∧ z < 256 := fun z hz => HB.out z (List.mem_of_mem_drop (List.mem_of_mem_take (by rwa [hm1] at hz)))
      obtain ⟨r, hr⟩ : ∃ r, bytesT (bs.drop pos) k = r := ⟨_, rfl⟩
      rw [hr] at HS hm2 hzz ⊢
      have HZZ := hid hzz
      clear hr hm1 hzz
      obtain ⟨zs, n, ev⟩ := r
      simp only at HS hm2 HZZ ⊢
      obtain ⟨ps, hps⟩ : ∃ ps, (if ev = 0 then pos + n else pos) = ps := ⟨_, rfl⟩
      rw [hps] at HS ⊢
      clear hps h1
      have hl8 : zs.length ≤ 8 := by omega
      clear hm2
      go_enter Try.func44, Try.ntmps44
      go_wp2_with fail
      refine HS.out.mono ?_
      rintro e w1 ⟨p1, n1, c1', rfl, hn1, ho, _, hq, hf⟩
      subst hn1
      have HQ := hid hq
      have HO := hid ho
      have HF := hid hf
      clear hq ho hf
      go_wp2_with fail
      refine (qvalue_any p1 c1' zs HZZ.out hl8 w1 HO.out.rd).mono ?_
      rintro e w2 ⟨rfl, hf2⟩
      have HF2 := hid hf2
      clear hf2
      go_wp2_with fail
      go_returns
      exact ⟨rfl, HQ.out.kept HF2.out (by simp) (by simp), HF.out.trans HF2.out (by simp)⟩
  · rw [readS_err _ _ _ _ he]
    have hb : (err != 0) = true := by simpa using he
    go_enter Try.func44, Try.ntmps44
    go_wp2_with fail
    go_returns
    exact ⟨rfl, HW.out.kept (Frm.refl [] _) (by simp) (by simp), Frm.refl _ _⟩
end
end Go.Proofs.Ytkolbijhekbelaa
