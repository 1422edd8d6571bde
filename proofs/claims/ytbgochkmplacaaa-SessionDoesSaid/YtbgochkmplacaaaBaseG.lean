/- Rows of cells of any kind: read, and laid behind a row of one's own. Speaks of no program. -/
import Derived.Test.YtbgochkmplacaaaBase
namespace Go.Proofs.Ytbgochkmplacaaa
open Go.RowKit Go.Lib

/-- From a place on there stand these cells (of none nothing is asked). -/
def Rv (w : World) (p : Option Addr) (vs : List Value) : Prop :=
  vs = [] ∨ ∃ g o, p = some ⟨g, o, none⟩ ∧ ∀ i u, vs[i]? = some u → w.cell? ⟨g, o + i, none⟩ = some u
theorem Rv.kept {S : List Nat} {w w' : World} {p : Option Addr} {vs : List Value} (h : Rv w p vs) (hf : Frm S w w') (hn : ∀ k ∈ blk p, k ∉ S) : Rv w' p vs := by
  rcases h with h | ⟨g, o, rfl, hc⟩
  · exact Or.inl h
  · refine Or.inr ⟨g, o, rfl, fun i u hi => ?_⟩
    have hlt : g < w.heap.size := World.block_lt_of_cell? w _ (hc i u hi)
    rw [hf.cell (p := ⟨g, o + i, none⟩) hlt (hn g (by simp [blk]))]
    exact hc i u hi
theorem Rd.rv {w : World} {p : Option Addr} {zs : List Int} (h : Rd w p zs) : Rv w p (bv zs) := by
  rcases h with rfl | ⟨g, o, rfl, hc⟩
  · exact Or.inl rfl
  · refine Or.inr ⟨g, o, rfl, fun i u hu => ?_⟩
    have hj : i < zs.length := by have := (List.getElem?_eq_some_iff.1 hu).1; simpa [bv] using this
    rw [bv_get hj] at hu
    rw [hc i hj]
    exact hu
/-- A new block of cells is read whole. -/
theorem rv_block {w : World} {g : Nat} {cs : Array Value} {E : TypeId} (h : w.heap[g]? = some (.cells cs E (0, 0))) : Rv w (some ⟨g, 0, none⟩) cs.toList :=
  Or.inr ⟨g, 0, rfl, fun i u hu => by rw [Nat.zero_add, cell_of_row w g i cs E (0, 0) h]; simpa using hu⟩
section
variable {P : Program} {w : World}
theorem add_lit (g o j : Nat) : (⟨g, o, none⟩ : Addr).add j = ⟨g, o + j, none⟩ := by unfold Addr.add; split <;> simp_all
/-- append to a row of one's own: it stays in its block, or goes into a new one. -/
theorem run_appV (t ty E : TypeId) (sz bytes : Nat) (z : Value) (ht : P.underlying t = some (.slice E)) (hI : (P.info? E).map (fun i => (i.zero, i.size, i.bytes)) = some (some z, sz, bytes)) (hzs : z.cells.size = sz) (hsz : 0 < sz)
    (v : Value) (n : Nat) (xs : List Value) (hown : w.ownsRow 0 E sz v n xs) (p : Option Addr) (m c : Nat) (ns : List Value) (hnl : ns.length = m * sz) (hp : m = 0 → p = none → c = 0) (hrd : Rv w p ns) (h1 : ∀ u ∈ ns, u.oneCell' = true)
    (hmax : n + m ≤ maxLen) (hb : (n + m) * bytes ≤ 140737488355328) :
    ∃ v' w', (Builtin.append_ #[t, t] ty #[v, .slice p m c]).run P w = .ok v' w' ∧ w'.ownsRow 0 E sz v' (n + m) (xs ++ ns) ∧ Frm v.ownBlock.toList w w' ∧ (∀ k ∈ v'.ownBlock.toList, k ∈ v.ownBlock.toList ∨ w.heap.size ≤ k) := by
  obtain ⟨i, hi, hz, hs, hby⟩ := info_parts hI
  by_cases hm : m = 0
  · subst hm
    obtain rfl : ns = [] := List.eq_nil_of_length_eq_zero (by simpa using hnl)
    cases p with
    | none =>
      obtain rfl := hp rfl rfl
      have hr := run_append_owned_none (P := P) w 0 t ty E i sz ht hi v n xs hown
      exact ⟨v, w, hr, by simpa using hown, Frm.refl _ _, fun k hk => Or.inl hk⟩
    | some ad =>
      obtain ⟨v', w', hr, ho, hg, _⟩ := run_append_own (P := P) w 0 t ty E i z sz bytes ht hi hz hs hby hzs hsz v n xs hown ad 0 c [] (by simp) (by simp) (by simp) hmax hb (Nat.zero_le _)
      refine ⟨v', w', hr, ho, (Frm.refl _ _).grown hg (fun k hk _ => by simp [hk]), ?_⟩
      rcases hown.2 with ⟨rfl, rfl⟩ | ⟨g, cap, cur, rfl, _, hgg, hc, hcm, hcs, htk⟩
      · obtain rfl : xs = [] := List.eq_nil_of_length_eq_zero (by simpa using hown.1)
        obtain ⟨v2, w2, hr2, ho2, _, _⟩ := run_append_own (P := P) w w.heap.size t ty E i z sz bytes ht hi hz hs hby hzs hsz (.slice none 0 0) 0 [] (World.ownsRow_nil w _ E sz) ad 0 c [] (by simp) (by simp) (by simp) hmax hb (Nat.le_refl _)
        obtain ⟨rfl, rfl⟩ := oks (hr.symm.trans hr2)
        intro k hk; exact Or.inr (ho2.lt k (by simpa using hk)).1
      · have hr2 := run_append_room (P := P) w t ty E i ht hi g n cap cur hgg ad 0 c [] (by simp) (by simp) (by simp) (by omega) (by simp [hs, hcs]; exact Nat.mul_le_mul_right _ hc)
        obtain ⟨rfl, rfl⟩ := oks (hr.symm.trans hr2)
        intro k hk; exact Or.inl (by simpa [Value.ownBlock] using hk)
  · have hne : ns ≠ [] := by
      intro h; subst h
      have h0 : m * sz = 0 := by simpa using hnl.symm
      rcases Nat.mul_eq_zero.1 h0 with h | h
      · exact hm h
      · omega
    obtain ⟨g0, o0, rfl, hc0⟩ : ∃ g o, p = some ⟨g, o, none⟩ ∧ ∀ i u, ns[i]? = some u → w.cell? ⟨g, o + i, none⟩ = some u := by
      rcases hrd with h | h
      · exact absurd h hne
      · exact h
    have hnews : ∀ j u, ns[j]? = some u → w.cell? ((⟨g0, o0, none⟩ : Addr).add j) = some u := by
      intro j u hu; rw [add_lit]; exact hc0 j u hu
    obtain ⟨v', w', hr, ho, hg, _⟩ := run_append_own (P := P) w 0 t ty E i z sz bytes ht hi hz hs hby hzs hsz v n xs hown ⟨g0, o0, none⟩ m c ns hnl hnews h1 hmax hb (Nat.zero_le _)
    refine ⟨v', w', hr, ho, (Frm.refl _ _).grown hg (fun k hk _ => by simp [hk]), ?_⟩
    have hpos : 0 < m := by omega
    have hm63 : n + m ≤ 9223372036854775807 := by unfold maxLen at hmax; omega
    rcases hown.2 with ⟨rfl, rfl⟩ | ⟨g, cap, cur, rfl, _, hgg, hc, hcm, hcs, htk⟩
    · have hr2 := run_append_nil (P := P) w t ty E i z ht hi hz ⟨g0, o0, none⟩ m c ns (by rw [hs]; exact hnl) hnews hpos (by omega) (by rw [hby]; rw [Nat.zero_add] at hb; omega)
      obtain ⟨rfl, rfl⟩ := oks (hr.symm.trans hr2)
      intro k hk; simp [Value.ownBlock] at hk; exact Or.inr (by omega)
    · by_cases hroom : n + m ≤ cap
      · have hr2 := run_append_room (P := P) w t ty E i ht hi g n cap cur hgg ⟨g0, o0, none⟩ m c ns (by rw [hs]; exact hnl) hnews h1 hroom (by rw [hnl, hs, hcs, ← Nat.add_mul]; exact Nat.mul_le_mul_right _ hroom)
        obtain ⟨rfl, rfl⟩ := oks (hr.symm.trans hr2)
        intro k hk; exact Or.inl (by simpa [Value.ownBlock] using hk)
      · have holds := World.ownsRow.cells (g := g) hown rfl
        have hr2 := run_append_grow (P := P) w t ty E i z ht hi hz ⟨g, 0, none⟩ n cap xs (by rw [hs]; exact hown.1) holds ⟨g0, o0, none⟩ m c ns (by rw [hs]; exact hnl) hnews (by omega) (by omega) (growslice_fits (by omega) (by rw [hby]; exact hb))
        obtain ⟨rfl, rfl⟩ := oks (hr.symm.trans hr2)
        intro k hk; simp [Value.ownBlock] at hk; exact Or.inr (by omega)
theorem ownsRow_shape {E : TypeId} {sz n : Nat} {v : Value} {xs : List Value} (h : w.ownsRow 0 E sz v n xs) : ∃ p c, v = .slice p n c := by
  rcases h.2 with ⟨rfl, rfl⟩ | ⟨g, c, cur, rfl, _⟩
  · exact ⟨none, 0, rfl⟩
  · exact ⟨_, c, rfl⟩
theorem wpList_appV {ops : Array Oper} {rest : List Oper} {o : Oper} {a : Act} {Q : Exit → Act → World → Prop} (hgd : o.guard = none) (s x : Operand) (t : TypeId)
    (ho : o.op = .call { callee := .builtin .append, args := #[s, x], argTypes := #[t, t] })
    (E : TypeId) (sz bytes : Nat) (z : Value) (ht : P.underlying t = some (.slice E)) (hI : (P.info? E).map (fun i => (i.zero, i.size, i.bytes)) = some (some z, sz, bytes)) (hzs : z.cells.size = sz) (hsz : 0 < sz)
    (p0 : Option Addr) (n c0 : Nat) (xs : List Value) (hs : a.eval s = .slice p0 n c0) (hown : w.ownsRow 0 E sz (.slice p0 n c0) n xs)
    (p : Option Addr) (m c : Nat) (ns : List Value) (hx : a.eval x = .slice p m c) (hnl : ns.length = m * sz) (hp : m = 0 → p = none → c = 0) (hrd : Rv w p ns) (h1 : ∀ u ∈ ns, u.oneCell' = true)
    (hmax : n + m ≤ maxLen) (hb : (n + m) * bytes ≤ 140737488355328)
    (h : ∀ p2 c2 w', Hid (w'.ownsRow 0 E sz (.slice p2 (n + m) c2) (n + m) (xs ++ ns)) → Hid (Frm (blk p0) w w') → Hid (∀ k ∈ blk p2, k ∈ blk p0 ∨ w.heap.size ≤ k) → wpList P ops Q rest (a.put o.dst (.slice p2 (n + m) c2)) w') :
    wpList P ops Q (o :: rest) a w := by
  refine wpList_plain hgd fun K hK => ?_
  obtain ⟨v', w', hrun, h2, h3, h4⟩ := run_appV (P := P) (w := w) t o.type E sz bytes z ht hI hzs hsz _ n xs hown p m c ns hnl hp hrd h1 hmax hb
  obtain ⟨p2, c2, rfl⟩ := ownsRow_shape h2
  rw [own_blk] at h4
  rw [own_blk] at h3 h4
  unfold Oper.wp
  simp [execOp, ho, resolve, invoke, builtin, hs, hx, hrun, Result.andThen]
  exact hK _ _ (h p2 c2 w' h2 h3 h4)
theorem ownsRow_kept {S : List Nat} {w' : World} {E : TypeId} {sz n : Nat} {p : Option Addr} {c : Nat} {xs : List Value} (h : w.ownsRow 0 E sz (.slice p n c) n xs) (hf : Frm S w w') (hn : ∀ k ∈ blk p, k ∉ S) : w'.ownsRow 0 E sz (.slice p n c) n xs := by
  refine ⟨h.1, ?_⟩
  rcases h.2 with h0 | ⟨g, c, cur, he, hb, hg, r⟩
  · exact Or.inl h0
  · simp only [Value.slice.injEq] at he
    obtain ⟨rfl, _, rfl⟩ := he
    exact Or.inr ⟨g, _, cur, rfl, hb, hf.heap hg (hn g (by simp [blk])), r⟩
theorem ownsRow_low {E : TypeId} {sz n : Nat} {p : Option Addr} {c : Nat} {xs : List Value} (h : w.ownsRow 0 E sz (.slice p n c) n xs) : ∀ k ∈ blk p, k < w.heap.size := by
  intro k hk
  exact (h.lt k (by cases p <;> simp_all [blk, Value.ownBlock])).2
end
end Go.Proofs.Ytbgochkmplacaaa
