/- The document's table of sessions: Clone, Load. -/
import Derived.Test.YtbgochkmplacaaaSsV
import Derived.Test.YtbgochkmplacaaaHeldT
import Derived.Test.YtbgochkmplacaaaDskF
import Derived.Laws.Tables
namespace Go.Proofs.Ytbgochkmplacaaa
open Go.RowKit Go.Lib
set_option maxRecDepth 100000

theorem rowsR_one (ls : List Rp) : ∀ u ∈ rowsR ls, u.oneCell' = true := by
  induction ls with
  | nil => intro u hu; simp [rowsR] at hu
  | cons v l ih =>
    intro u hu
    rw [rowsR] at hu
    rcases List.mem_append.1 hu with h | h
    · simp [Rp.row] at h
      rcases h with rfl | rfl | rfl | rfl | rfl | rfl | rfl <;> rfl
    · exact ih u h
theorem OwnL.rv {w : World} {p : Option Addr} {n c : Nat} {ls : List Rp} (h : OwnL w p n c ls) : Rv w p (rowsR ls) := by
  rcases h.1.2 with ⟨_, h0⟩ | ⟨g, c', cur, he, _, hg, hc, hm, hs, ht⟩
  · refine Or.inl ?_
    have := h.2
    have h1 : ls = [] := List.eq_nil_of_length_eq_zero (by omega)
    rw [h1]; rfl
  · simp only [Value.slice.injEq] at he
    obtain ⟨rfl, _, _⟩ := he
    refine Or.inr ⟨g, 0, rfl, fun i u hu => ?_⟩
    have hi : i < (rowsR ls).length := (List.getElem?_eq_some_iff.1 hu).1
    rw [rowsR_len, h.2] at hi
    rw [Nat.zero_add, World.ownsRow.cellAt h.1 i hi]
    exact hu
theorem OwnL.nilc {w : World} {p : Option Addr} {n c : Nat} {ls : List Rp} (h : OwnL w p n c ls) (hp : p = none) : c = 0 := owns_nil h.1 hp
section
variable {P : Program} {w : World}
theorem wp_appV {o : Oper} {a : Act} {K : Act → World → Prop} {Q : Exit → Act → World → Prop} (hgd : o.guard = none) (s x : Operand) (t : TypeId)
    (ho : o.op = .call { callee := .builtin .append, args := #[s, x], argTypes := #[t, t] })
    (E : TypeId) (sz bytes : Nat) (z : Value) (ht : P.underlying t = some (.slice E)) (hI : (P.info? E).map (fun i => (i.zero, i.size, i.bytes)) = some (some z, sz, bytes)) (hzs : z.cells.size = sz) (hsz : 0 < sz)
    (p0 : Option Addr) (n c0 : Nat) (xs : List Value) (hs : a.eval s = .slice p0 n c0) (hown : w.ownsRow 0 E sz (.slice p0 n c0) n xs)
    (p : Option Addr) (m c : Nat) (ns : List Value) (hx : a.eval x = .slice p m c) (hnl : ns.length = m * sz) (hp : m = 0 → p = none → c = 0) (hrd : Rv w p ns) (h1 : ∀ u ∈ ns, u.oneCell' = true)
    (hmax : n + m ≤ maxLen) (hb : (n + m) * bytes ≤ 140737488355328)
    (h : ∀ p2 c2 w', Hid (w'.ownsRow 0 E sz (.slice p2 (n + m) c2) (n + m) (xs ++ ns)) → Hid (Frm (blk p0) w w') → Hid (∀ k ∈ blk p2, k ∈ blk p0 ∨ w.heap.size ≤ k) → K (a.put o.dst (.slice p2 (n + m) c2)) w') :
    Oper.wp P o a w K Q := by
  have hw : Region.wanted o (yielded #[] a.tmps) = true := by simp [Region.wanted, hgd]
  have := step_appV (ops := #[]) (K := K) (Q := Q) (Zz := True) hgd s x t ho E sz bytes z ht hI hzs hsz p0 n c0 xs hs hown p m c ns hx hnl hp hrd h1 hmax hb h
  rw [if_pos hw] at this
  exact this
end
def CloneR (w : World) (ls : List Rp) (f a r : Int) (e : Ending) (w' : World) : Prop :=
  ∃ d q cq, e = .returned (.pointer (some ⟨d, 0, none⟩)) ∧ RT w' d q cq ls f a r ∧ Frm [] w w' ∧ w.heap.size ≤ d ∧ ∀ k ∈ blk q, w.heap.size ≤ k
/-- A new table of such replies. -/
theorem rt_new {w W W' : World} {ls : List Rp} {q : Option Addr} {cq n : Nat} {f a r : Int} (hn : ls.length = n) (hk : ∀ v ∈ ls, RpOk w v) (hf : Frm [] w W) (ho : W'.ownsRow 0 61 7 (.slice q n cq) n (rowsR [] ++ rowsR ls)) (hf2 : Frm [] W W') (hb : ∀ k ∈ blk q, W.heap.size ≤ k) :
    RT (W'.alloc (.cells #[.slice q n cq, .int .i64 f, .int .i64 a, .int .i64 r] 54)) W'.heap.size q cq ls f a r ∧ Frm [] w (W'.alloc (.cells #[.slice q n cq, .int .i64 f, .int .i64 a, .int .i64 r] 54)) ∧ w.heap.size ≤ W'.heap.size ∧ ∀ k ∈ blk q, w.heap.size ≤ k := by
  subst hn
  have ho' : OwnL W' q ls.length cq ls := ⟨by simpa [rowsR] using ho, rfl⟩
  have hft := hf.trans hf2 (by simp)
  have hz := hf.size
  have hz2 := hft.size
  refine ⟨⟨heap_alloc_new _ _, ho'.kept ((Frm.refl [] W').alloc _) (by simp), fun v hv => (hk v hv).keptN (hft.alloc _) (by simp), fun hm => by have := ownsRow_low ho'.1 _ hm; omega, fun v hv k hk2 hx => ?_⟩, hft.alloc _, hz2, fun k hk => by have := hb k hk; omega⟩
  have h1 := (hk v hv).lowN k hk2
  simp [footR] at hx
  rcases hx with rfl | hx
  · omega
  · have := hb k hx; omega
set_option maxHeartbeats 6400000 in
theorem rclone24_any (d : Nat) (p : Option Addr) (c : Nat) (ls : List Rp) (f a r : Int) (w : World) (h : RT w d p c ls f a r) (hb : ls.length ≤ 8) :
    Calls Try.prog 31 #[.pointer (some ⟨d, 0, none⟩)] w (CloneR w ls f a r) := by
  obtain ⟨PO, hPO⟩ : ∃ PO : Ending → World → Prop, CloneR w ls f a r = PO := ⟨_, rfl⟩
  rw [hPO]
  have HP : Hid (∀ d' q cq w', RT w' d' q cq ls f a r → Frm [] w w' → w.heap.size ≤ d' → (∀ k ∈ blk q, w.heap.size ≤ k) → PO (.returned (.pointer (some ⟨d', 0, none⟩))) w') := hid (fun d' q cq w' h1 h2 h3 h4 => by rw [← hPO]; exact ⟨d', q, cq, rfl, h1, h2, h3, h4⟩)
  obtain ⟨n, hn⟩ : ∃ q, ls.length = q := ⟨_, rfl⟩
  have HN := hid hn
  have HR := hid h
  rw [hn] at hb
  obtain ⟨c0, c1, c2, c3, _⟩ := h.cells
  rw [hn] at c0
  have HOW : Hid (∀ W : World, W.ownsRow 0 61 7 (.slice none 0 0) 0 (rowsR [])) := hid (fun W => ⟨rfl, Or.inl ⟨rfl, rfl⟩⟩)
  have hs0 : w.drew.cell? ⟨d, 0, none⟩ = some (.slice p n c) ∧ w.drew.cell? ⟨d, 1, none⟩ = some (.int .i64 f) ∧ w.drew.cell? ⟨d, 2, none⟩ = some (.int .i64 a) ∧ w.drew.cell? ⟨d, 3, none⟩ = some (.int .i64 r) ∧ Frm [] w w.drew := ⟨c0, c1, c2, c3, (Frm.refl [] w).drew⟩
  have HKS : Hid (∀ W W' : World, (W.cell? ⟨d, 0, none⟩ = some (.slice p n c) ∧ W.cell? ⟨d, 1, none⟩ = some (.int .i64 f) ∧ W.cell? ⟨d, 2, none⟩ = some (.int .i64 a) ∧ W.cell? ⟨d, 3, none⟩ = some (.int .i64 r) ∧ Frm [] w W) → Frm [] W W' → (W'.cell? ⟨d, 0, none⟩ = some (.slice p n c) ∧ W'.cell? ⟨d, 1, none⟩ = some (.int .i64 f) ∧ W'.cell? ⟨d, 2, none⟩ = some (.int .i64 a) ∧ W'.cell? ⟨d, 3, none⟩ = some (.int .i64 r) ∧ Frm [] w W')) := hid (fun W W' hs hf => by
    have kc : ∀ q v, W.cell? q = some v → W'.cell? q = some v := fun q v hv => (hf.cell (World.block_lt_of_cell? W _ hv) (by simp)).trans hv
    exact ⟨kc _ _ hs.1, kc _ _ hs.2.1, kc _ _ hs.2.2.1, kc _ _ hs.2.2.2.1, hs.2.2.2.2.trans hf (by simp)⟩)
  have HRV := hid (fun W (hf : Frm [] w W) => ((h.own.kept hf (by simp)).rv))
  have HNIL := hid (fun (hp : p = none) => h.own.nilc hp)
  have HLN : Hid ((rowsR ls).length = n * 7) := hid (by rw [rowsR_len, hn])
  clear h hPO c0 c1 c2 c3 hn
  go_enter Try.func31, Try.ntmps31
  go_upto_region 2 with fail
  refine wp_region_tail (S := fun W => (W.cell? ⟨d, 0, none⟩ = some (.slice p n c) ∧ W.cell? ⟨d, 1, none⟩ = some (.int .i64 f) ∧ W.cell? ⟨d, 2, none⟩ = some (.int .i64 a) ∧ W.cell? ⟨d, 3, none⟩ = some (.int .i64 r) ∧ Frm [] w W)) 18 21 rfl (by kernel_rfl) (by kernel_rfl) ?_
  refine wpAnyHT_take (i := 0) (oi := _) (v := ?_) (by kernel_rfl) rfl (by kernel_rfl) (by kernel_rfl) (by kernel_rfl) (by kernel_rfl) (fun _ _ _ h => h) (Or.inl ⟨by rfl, ?_⟩) hs0 ?_
  rotate_left 1
  · (intro W hSw; obtain ⟨s0, s1, s2, s3, _⟩ := hSw; (try simp only [List.getElem_toArray, List.getElem_cons_zero]); go_simp; try with_reducible rfl)
  try simp only [List.getElem_toArray, List.getElem_cons_zero, Act.put, List.setIfInBounds_toArray, List.set_cons_zero, List.set_cons_succ]
  refine wpAnyHT_take (i := 1) (oi := _) (v := ?_) (by kernel_rfl) rfl (by kernel_rfl) (by kernel_rfl) (by kernel_rfl) (by kernel_rfl) (fun _ _ _ h => h) (Or.inl ⟨by rfl, ?_⟩) hs0 ?_
  rotate_left 1
  · (intro W hSw; obtain ⟨s0, s1, s2, s3, _⟩ := hSw; (try simp only [List.getElem_toArray, List.getElem_cons_succ, List.getElem_cons_zero]); go_simp; try with_reducible rfl)
  try simp only [List.getElem_toArray, List.getElem_cons_succ, List.getElem_cons_zero, Act.put, List.setIfInBounds_toArray, List.set_cons_zero, List.set_cons_succ]
  refine wpAnyHT_take (i := 2) (oi := _) (v := ?_) (by kernel_rfl) rfl (by kernel_rfl) (by kernel_rfl) (by kernel_rfl) (by kernel_rfl) (fun _ _ _ h => h) (Or.inl ⟨by rfl, ?_⟩) hs0 ?_
  rotate_left 1
  · (intro W hSw; obtain ⟨s0, s1, s2, s3, _⟩ := hSw; (try simp only [List.getElem_toArray, List.getElem_cons_succ, List.getElem_cons_zero]); go_simp; try with_reducible rfl)
  try simp only [List.getElem_toArray, List.getElem_cons_succ, List.getElem_cons_zero, Act.put, List.setIfInBounds_toArray, List.set_cons_zero, List.set_cons_succ]
  refine wpAnyHT_take (i := 3) (oi := _) (v := ?_) (by kernel_rfl) rfl (by kernel_rfl) (by kernel_rfl) (by kernel_rfl) (by kernel_rfl) (fun _ _ _ h => h) (Or.inl ⟨by rfl, ?_⟩) hs0 ?_
  rotate_left 1
  · (intro W hSw; obtain ⟨s0, s1, s2, s3, _⟩ := hSw; (try simp only [List.getElem_toArray, List.getElem_cons_succ, List.getElem_cons_zero]); go_simp; try with_reducible rfl)
  try simp only [List.getElem_toArray, List.getElem_cons_succ, List.getElem_cons_zero, Act.put, List.setIfInBounds_toArray, List.set_cons_zero, List.set_cons_succ]
  refine wpAnyHT_take (i := 4) (oi := _) (v := ?_) (by kernel_rfl) rfl (by kernel_rfl) (by kernel_rfl) (by kernel_rfl) (by kernel_rfl) (fun _ _ _ h => h) (Or.inl ⟨by rfl, ?_⟩) hs0 ?_
  rotate_left 1
  · (intro W hSw; obtain ⟨s0, s1, s2, s3, _⟩ := hSw; (try simp only [List.getElem_toArray, List.getElem_cons_succ, List.getElem_cons_zero]); go_simp; try with_reducible rfl)
  try simp only [List.getElem_toArray, List.getElem_cons_succ, List.getElem_cons_zero, Act.put, List.setIfInBounds_toArray, List.set_cons_zero, List.set_cons_succ]
  refine wpAnyHT_take (i := 6) (oi := _) (v := ?_) (by kernel_rfl) rfl (by kernel_rfl) (by kernel_rfl) (by kernel_rfl) (by kernel_rfl) (fun _ _ _ h => h) (Or.inl ⟨by rfl, ?_⟩) hs0 ?_
  rotate_left 1
  · (intro W hSw; obtain ⟨s0, s1, s2, s3, _⟩ := hSw; (try simp only [List.getElem_toArray, List.getElem_cons_succ, List.getElem_cons_zero]); go_simp; try with_reducible rfl)
  try simp only [List.getElem_toArray, List.getElem_cons_succ, List.getElem_cons_zero, Act.put, List.setIfInBounds_toArray, List.set_cons_zero, List.set_cons_succ]
  refine wpAnyHT_take (i := 7) (oi := _) (v := ?_) (by kernel_rfl) rfl (by kernel_rfl) (by kernel_rfl) (by kernel_rfl) (by kernel_rfl) (fun _ _ _ h => h) (Or.inl ⟨by rfl, ?_⟩) hs0 ?_
  rotate_left 1
  · (intro W hSw; obtain ⟨s0, s1, s2, s3, _⟩ := hSw; (try simp only [List.getElem_toArray, List.getElem_cons_succ, List.getElem_cons_zero]); go_simp; try with_reducible rfl)
  try simp only [List.getElem_toArray, List.getElem_cons_succ, List.getElem_cons_zero, Act.put, List.setIfInBounds_toArray, List.set_cons_zero, List.set_cons_succ]
  refine wpAnyHT_take (i := 8) (oi := _) (v := ?_) (by kernel_rfl) rfl (by kernel_rfl) (by kernel_rfl) (by kernel_rfl) (by kernel_rfl) (fun _ _ _ h => h) (Or.inl ⟨by rfl, ?_⟩) hs0 ?_
  rotate_left 1
  · (intro W hSw; obtain ⟨s0, s1, s2, s3, _⟩ := hSw; (try simp only [List.getElem_toArray, List.getElem_cons_succ, List.getElem_cons_zero]); go_simp; try with_reducible rfl)
  try simp only [List.getElem_toArray, List.getElem_cons_succ, List.getElem_cons_zero, Act.put, List.setIfInBounds_toArray, List.set_cons_zero, List.set_cons_succ]
  refine wpAnyHT_take (i := 9) (oi := _) (v := ?_) (by kernel_rfl) rfl (by kernel_rfl) (by kernel_rfl) (by kernel_rfl) (by kernel_rfl) (fun _ _ _ h => h) (Or.inl ⟨by rfl, ?_⟩) hs0 ?_
  rotate_left 1
  · (intro W hSw; obtain ⟨s0, s1, s2, s3, _⟩ := hSw; (try simp only [List.getElem_toArray, List.getElem_cons_succ, List.getElem_cons_zero]); go_simp; try with_reducible rfl)
  try simp only [List.getElem_toArray, List.getElem_cons_succ, List.getElem_cons_zero, Act.put, List.setIfInBounds_toArray, List.set_cons_zero, List.set_cons_succ]
  refine wpAnyHT_take (i := 10) (oi := _) (v := ?_) (by kernel_rfl) rfl (by kernel_rfl) (by kernel_rfl) (by kernel_rfl) (by kernel_rfl) (fun _ _ _ h => h) (Or.inl ⟨by rfl, ?_⟩) hs0 ?_
  rotate_left 1
  · (intro W hSw; obtain ⟨s0, s1, s2, s3, _⟩ := hSw; (try simp only [List.getElem_toArray, List.getElem_cons_succ, List.getElem_cons_zero]); go_simp; try with_reducible rfl)
  try simp only [List.getElem_toArray, List.getElem_cons_succ, List.getElem_cons_zero, Act.put, List.setIfInBounds_toArray, List.set_cons_zero, List.set_cons_succ]
  refine wpAnyHT_take (i := 11) (oi := _) (v := ?_) (by kernel_rfl) rfl (by kernel_rfl) (by kernel_rfl) (by kernel_rfl) (by kernel_rfl) (fun _ _ _ h => h) (Or.inl ⟨by rfl, ?_⟩) hs0 ?_
  rotate_left 1
  · (intro W hSw; obtain ⟨s0, s1, s2, s3, _⟩ := hSw; (try simp only [List.getElem_toArray, List.getElem_cons_succ, List.getElem_cons_zero]); go_simp; try with_reducible rfl)
  try simp only [List.getElem_toArray, List.getElem_cons_succ, List.getElem_cons_zero, Act.put, List.setIfInBounds_toArray, List.set_cons_zero, List.set_cons_succ]
  refine wpAnyHT_take (i := 12) (oi := _) (v := ?_) (by kernel_rfl) rfl (by kernel_rfl) (by kernel_rfl) (by kernel_rfl) (by kernel_rfl) (fun _ _ _ h => h) (Or.inl ⟨by rfl, ?_⟩) hs0 ?_
  rotate_left 1
  · (intro W hSw; obtain ⟨s0, s1, s2, s3, _⟩ := hSw; (try simp only [List.getElem_toArray, List.getElem_cons_succ, List.getElem_cons_zero]); go_simp; try with_reducible rfl)
  try simp only [List.getElem_toArray, List.getElem_cons_succ, List.getElem_cons_zero, Act.put, List.setIfInBounds_toArray, List.set_cons_zero, List.set_cons_succ]
  refine wpAnyHT_take (i := 13) (oi := _) (v := ?_) (by kernel_rfl) rfl (by kernel_rfl) (by kernel_rfl) (by kernel_rfl) (by kernel_rfl) (fun _ _ _ h => h) (Or.inl ⟨by rfl, ?_⟩) hs0 ?_
  rotate_left 1
  · (intro W hSw; obtain ⟨s0, s1, s2, s3, _⟩ := hSw; (try simp only [List.getElem_toArray, List.getElem_cons_succ, List.getElem_cons_zero]); go_simp; try with_reducible rfl)
  try simp only [List.getElem_toArray, List.getElem_cons_succ, List.getElem_cons_zero, Act.put, List.setIfInBounds_toArray, List.set_cons_zero, List.set_cons_succ]
  refine wpAnyHT_take (i := 14) (oi := _) (v := ?_) (by kernel_rfl) rfl (by kernel_rfl) (by kernel_rfl) (by kernel_rfl) (by kernel_rfl) (fun _ _ _ h => h) (Or.inl ⟨by rfl, ?_⟩) hs0 ?_
  rotate_left 1
  · (intro W hSw; obtain ⟨s0, s1, s2, s3, _⟩ := hSw; (try simp only [List.getElem_toArray, List.getElem_cons_succ, List.getElem_cons_zero]); go_simp; try with_reducible rfl)
  try simp only [List.getElem_toArray, List.getElem_cons_succ, List.getElem_cons_zero, Act.put, List.setIfInBounds_toArray, List.set_cons_zero, List.set_cons_succ]
  refine wpAnyHT_take (i := 15) (oi := _) (v := ?_) (by kernel_rfl) rfl (by kernel_rfl) (by kernel_rfl) (by kernel_rfl) (by kernel_rfl) (fun _ _ _ h => h) (Or.inl ⟨by rfl, ?_⟩) hs0 ?_
  rotate_left 1
  · (intro W hSw; obtain ⟨s0, s1, s2, s3, _⟩ := hSw; (try simp only [List.getElem_toArray, List.getElem_cons_succ, List.getElem_cons_zero]); go_simp; try with_reducible rfl)
  try simp only [List.getElem_toArray, List.getElem_cons_succ, List.getElem_cons_zero, Act.put, List.setIfInBounds_toArray, List.set_cons_zero, List.set_cons_succ]
  refine wpAnyHT_take (i := 16) (oi := _) (v := ?_) (by kernel_rfl) rfl (by kernel_rfl) (by kernel_rfl) (by kernel_rfl) (by kernel_rfl) (fun _ _ _ h => h) (Or.inl ⟨by rfl, ?_⟩) hs0 ?_
  rotate_left 1
  · (intro W hSw; obtain ⟨s0, s1, s2, s3, _⟩ := hSw; (try simp only [List.getElem_toArray, List.getElem_cons_succ, List.getElem_cons_zero]); go_simp; try with_reducible rfl)
  try simp only [List.getElem_toArray, List.getElem_cons_succ, List.getElem_cons_zero, Act.put, List.setIfInBounds_toArray, List.set_cons_zero, List.set_cons_succ]
  refine wpAnyHT_take (i := 17) (oi := _) (v := ?_) (by kernel_rfl) rfl (by kernel_rfl) (by kernel_rfl) (by kernel_rfl) (by kernel_rfl) (fun _ _ _ h => h) (Or.inl ⟨by rfl, ?_⟩) hs0 ?_
  rotate_left 1
  · (intro W hSw; obtain ⟨s0, s1, s2, s3, _⟩ := hSw; (try simp only [List.getElem_toArray, List.getElem_cons_succ, List.getElem_cons_zero]); go_simp; try with_reducible rfl)
  try simp only [List.getElem_toArray, List.getElem_cons_succ, List.getElem_cons_zero, Act.put, List.setIfInBounds_toArray, List.set_cons_zero, List.set_cons_succ]
  refine wpAnyHT_one (i := 5) rfl (by kernel_rfl) (by kernel_rfl) (fun K hK => ?_)
  try simp only [List.getElem_toArray, List.getElem_cons_succ, List.getElem_cons_zero]
  rw [if_pos (by rfl)]
  apply wp_appV (s := .tmp 4) (x := .tmp 8) (t := 52) (E := 61) (sz := 7) (bytes := 96) (p0 := none) (n := 0) (c0 := 0) (xs := rowsR []) (p := p) (m := n) (c := c) (ns := rowsR ls)
  case hgd => rfl
  case ho => rfl
  case ht => exact Try.underlying52
  case hI => exact infoRp
  case hzs => rfl
  case hsz => decide
  case hs => rfl
  case hown => exact HOW.out _
  case hx => rfl
  case hnl => exact HLN.out
  case hp => exact (fun _ h => HNIL.out h)
  case hrd => exact HRV.out _ hs0.2.2.2.2
  case h1 => exact rowsR_one _
  case hmax => unfold maxLen; omega
  case hb => omega
  intro q cq w2 ho2 hf2 hb2
  rw [show 0 + n = n by omega] at ho2 ⊢
  have hs2 := HKS.out _ _ hs0 (by have := hf2.out; simpa [blk] using this)
  refine hK _ _ hs2 ?_
  clear hK K
  try simp only [Act.put, List.setIfInBounds_toArray, List.set_cons_zero, List.set_cons_succ]
  refine wpAnyHT_end (by kernel_rfl) ?_
  simp only [List.drop_succ_cons, List.drop_zero]
  have HFIN := hid (rt_new (f := f) (a := a) (r := r) HN.out HR.out.ok (Frm.refl [] w).drew ho2.out (by have := hf2.out; simpa [blk] using this) (fun k hk => by have := hb2.out k hk; simpa [blk] using this))
  clear ho2 hf2 hb2 hs0 hs2
  go_wp2
  first | go_returns | skip
  exact HP.out _ q cq _ HFIN.out.1 HFIN.out.2.1 HFIN.out.2.2.1 HFIN.out.2.2.2
/-- A list that makes a table is short. -/
theorem okL_len : ∀ (l : List Rs) (m : Int), 0 ≤ m → m ≤ 8 → okL m l = true → (l.length : Int) ≤ 8 - m
  | [], m, h0, h8, _ => by simp; omega
  | x :: l, m, h0, h8, h => by
    simp only [okL, Bool.and_eq_true, decide_eq_true_eq] at h
    have := okL_len l x.s (by omega) (by omega) h.2
    simp only [List.length_cons]
    omega
def LoadRP (w : World) (ls : List Rp) (e : Ending) (w' : World) : Prop :=
  Frm [] w w' ∧ ((okL 0 (ls.map Rp.x) = false ∧ e = .returned (.tuple #[.pointer none, .int .i64 240])) ∨ (okL 0 (ls.map Rp.x) = true ∧ ∃ d q cq, e = .returned (.tuple #[.pointer (some ⟨d, 0, none⟩), .int .i64 0]) ∧ RT w' d q cq ls 0 0 0 ∧ w.heap.size ≤ d ∧ ∀ k ∈ blk q, w.heap.size ≤ k))
set_option maxHeartbeats 12800000 in
theorem rload24_any (p : Option Addr) (n c : Nat) (ls : List Rp) (w : World) (hr : Rv w p (rowsR ls)) (hn : ls.length = n) (hb : n ≤ 4611686018427387904) (hc : p = none → c = 0) (hk : ∀ v ∈ ls, RpOk w v) :
    Calls Try.prog 56 #[.slice p n c] w (LoadRP w ls) := by
  obtain ⟨PO, hPO⟩ : ∃ PO : Ending → World → Prop, LoadRP w ls = PO := ⟨_, rfl⟩
  rw [hPO]
  have HP1 : Hid (∀ w', okL 0 (ls.map Rp.x) = false → Frm [] w w' → PO (.returned (.tuple #[.pointer none, .int .i64 240])) w') := hid (fun w' h1 h2 => by rw [← hPO]; exact ⟨h2, Or.inl ⟨h1, rfl⟩⟩)
  have HP2 : Hid (∀ d q cq w', okL 0 (ls.map Rp.x) = true → Frm [] w w' → RT w' d q cq ls 0 0 0 → w.heap.size ≤ d → (∀ k ∈ blk q, w.heap.size ≤ k) → PO (.returned (.tuple #[.pointer (some ⟨d, 0, none⟩), .int .i64 0])) w') := hid (fun d q cq w' h1 h2 h3 h4 h5 => by rw [← hPO]; exact ⟨h2, Or.inr ⟨h1, d, q, cq, rfl, h3, h4, h5⟩⟩)
  obtain ⟨xs, hxs⟩ : ∃ q, ls.map Rp.x = q := ⟨_, rfl⟩
  rw [hxs] at HP1 HP2
  have HRV := hid (fun W (hf : Frm [] w W) => hr.kept hf (by simp))
  have HK := hid hk
  have HN := hid hn
  have HC := hid hc
  have HXS := hid hxs
  have HIS := hid (fun s id W => is24_any s id W)
  clear hr hk hn hc hPO hxs
  go_enter Try.func56, Try.ntmps56
  go_wp2_with fail
  go_loopw [4] (fun i wr => ∃ (t : Nat) (la : Int), t ≤ n ∧ (0 ≤ la ∧ la ≤ 8) ∧ i = .int .i64 (t : Int) ∧ Hid (Frm [] w wr ∧ okL 0 xs = okL la (xs.drop t) ∧ (∀ j, t = j + 1 → ∃ u, ls[j]? = some u ∧ u.x.s = la) ∧ (t = 0 → la = 0))) (fun i _ => n - (intOf i).toNat)
  case atStart => exact ⟨0, 0, Nat.zero_le _, by omega, rfl, hid ⟨Frm.refl _ _, rfl, fun j h => by omega, fun _ => rfl⟩⟩
  case round =>
    obtain ⟨t, la, ht, hla, rfl, hin⟩ := hrel
    obtain ⟨hl0, hl8⟩ := hla
    by_cases hlt : t < n
    · have t1 : (t : Int) < (n : Int) := by omega
      obtain ⟨v, hv⟩ : ∃ v, ls[t]? = some v := ⟨_, List.getElem?_eq_getElem (by rw [HN.out]; exact hlt)⟩
      have HV := hid hv
      have HXT : Hid (xs[t]? = some v.x) := hid (by rw [← HXS.out, List.getElem?_map, hv]; rfl)
      have hrr := HRV.out wr hin.out.1
      rcases hrr with h0 | ⟨g, o, rfl, hcs⟩
      · exact absurd (rowsR_get ls t v hv 0 _ rfl) (by rw [h0]; simp)
      have HCS := hid hcs
      obtain ⟨⟨s, id, er, nu, tx, ss, ds⟩, lp, lc, dp, dc⟩ := v
      have q0 : wr.cell? ⟨g, o + t * 7, none⟩ = some (.int .i64 s) := hcs _ _ (rowsR_get ls t _ hv 0 _ rfl)
      have q1 : wr.cell? ⟨g, o + t * 7 + 1, none⟩ = some (.int .i64 id) := hcs _ _ (rowsR_get ls t _ hv 1 _ rfl)
      have HOKT : Hid (okL la (xs.drop t) = (decide (la < s ∧ 1 ≤ s ∧ s ≤ 8 ∧ 1 ≤ id ∧ id ≤ 1073741824) && okL s (xs.drop (t + 1)))) := hid (by
        rw [List.drop_eq_getElem_cons (List.getElem?_eq_some_iff.1 HXT.out).1, (List.getElem?_eq_some_iff.1 HXT.out).2]; rfl)
      clear hcs hv
      go_upto_region 4 with fail
      go_quiet ((go_at_call 73; with_reducible exact Calls.quiet_of_same (HIS.out _ _ _)))
      have HF1 : Hid (Frm [] wr (wr.drewN nq)) := hid ((Frm.refl _ _).drewN nq)
      have q0' : (wr.drewN nq).cell? ⟨g, o + t * 7, none⟩ = some (.int .i64 s) := q0
      have HCS1 : Hid (∀ (i : Nat) (u : Value), (rowsR ls)[i]? = some u → (wr.drewN nq).cell? ⟨g, o + i, none⟩ = some u) := hid HCS.out
      clear q0 q1 HCS
      generalize wr.drewN nq = w1 at *
      have HIN := hid (hin.out.1.trans HF1.out (by simp))
      have HPV := hid hin.out.2.2
      have HEQ := hid hin.out.2.1
      clear hin HF1
      obtain ⟨B, hB⟩ : ∃ q, is24 s id = q := ⟨_, rfl⟩
      rw [hB]
      have HB := hid hB
      clear hB
      go_upto_region 5 with fail
      go_cut [43] from 7 to 43 (fun z wx => z = .bool (decide (B = false ∨ (0 < t ∧ s ≤ la))) ∧ Hid (Frm [] w1 wx))
      case first =>
        cases B
        · go_quiet (fail)
          go_wp2_with fail
          go_meet
          exact ⟨by simp, hid ((Frm.refl _ _).drewN _)⟩
        · by_cases h0 : t = 0
          · subst h0
            go_quiet (fail)
            go_wp2_with fail
            go_meet
            exact ⟨by simp, hid ((Frm.refl _ _).drewN _)⟩
          · obtain ⟨j, rfl⟩ : ∃ j, t = j + 1 := ⟨t - 1, by omega⟩
            obtain ⟨u, hu, hul⟩ := HPV.out.1 j rfl
            have hd0 : decide ((0 : Int) < ((j + 1 : Nat) : Int)) = true := decide_eq_true (by omega)
            have hsub : wrap64 (((j + 1 : Nat) : Int) - 1) = (j : Int) := by unfold wrap64; omega
            have hsub2 : IntKind.i64.wrap (((j + 1 : Nat) : Int) - 1) = (j : Int) := by rw [wrap_i64, hsub]
            have hjb : (j : Int) < (n : Int) := by omega
            have r0 : w1.cell? ⟨g, o + j * 7, none⟩ = some (.int .i64 la) := by rw [← hul]; exact HCS1.out _ _ (rowsR_get ls j _ hu 0 _ rfl)
            clear hu hul h0
            by_cases hge : s ≤ la
            · have hd : decide (s ≤ la) = true := decide_eq_true hge
              go_quiet (fail)
              go_wp2_with fail
              go_meet
              exact ⟨by simp [hge], hid ((Frm.refl _ _).drewN _)⟩
            · have hd : decide (s ≤ la) = false := decide_eq_false hge
              go_quiet (fail)
              go_wp2_with fail
              go_meet
              exact ⟨by simp [hge], hid ((Frm.refl _ _).drewN _)⟩
      obtain ⟨rfl, hfc⟩ := hcut
      have HINC := hid (HIN.out.trans hfc.out (by simp))
      by_cases hbad : B = false ∨ (0 < t ∧ s ≤ la)
      · have hd : decide (B = false ∨ (0 < t ∧ s ≤ la)) = true := decide_eq_true hbad
        have HE : Hid (okL 0 xs = false) := hid (by
          rw [HEQ.out, HOKT.out]
          have : decide (la < s ∧ 1 ≤ s ∧ s ≤ 8 ∧ 1 ≤ id ∧ id ≤ 1073741824) = false := by
            have hbb := HB.out
            unfold is24 at hbb
            rcases hbad with rfl | hbad
            · have := of_decide_eq_false hbb
              exact decide_eq_false (fun h => this h.2)
            · exact decide_eq_false (fun h => by omega)
          rw [this]; rfl)
        rw [hd]
        clear hd hbad hfc q0'
        go_wp2_with fail
        first | go_returns | skip
        exact HP1.out _ HE.out HINC.out
      · have hd : decide (B = false ∨ (0 < t ∧ s ≤ la)) = false := decide_eq_false hbad
        have HE : Hid (1 ≤ s ∧ s ≤ 8 ∧ okL 0 xs = okL s (xs.drop (t + 1))) := hid (by
          have hbt : B = true := by
            cases B
            · exact absurd (Or.inl rfl) hbad
            · rfl
          have hbb := HB.out
          rw [hbt] at hbb
          unfold is24 at hbb
          have h1 := of_decide_eq_true hbb
          have hls : la < s := by
            by_cases h0 : t = 0
            · rw [HPV.out.2 h0]; omega
            · by_cases h2 : s ≤ la
              · exact absurd (Or.inr ⟨by omega, h2⟩) hbad
              · omega
          refine ⟨h1.1, h1.2.1, ?_⟩
          rw [HEQ.out, HOKT.out, decide_eq_true (p := la < s ∧ 1 ≤ s ∧ s ≤ 8 ∧ 1 ≤ id ∧ id ≤ 1073741824) ⟨hls, h1⟩]; rfl)
        have HSB : Hid (0 ≤ s ∧ s ≤ 8) := hid (by have := HE.out; omega)
        rw [hd]
        clear hd hbad hfc q0'
        go_wp2_with fail
        go_roundw
        case rel => exact ⟨t + 1, s, by omega, HSB.out, by go_num, hid ⟨HINC.out, HE.out.2.2, fun j hj => (show t = j by omega) ▸ ⟨_, HV.out, rfl⟩, fun h => by omega⟩⟩
        case measure => first | (simp [intOf]; done) | (simp [intOf]; omega)
    · obtain rfl : t = n := by omega
      have HE : Hid (okL 0 xs = true) := hid (by
        rw [hin.out.2.1, List.drop_of_length_le (by rw [← HXS.out, List.length_map, HN.out]; exact Nat.le_refl _)]; rfl)
      have hln : t ≤ 8 := by
        have h1 := okL_len xs 0 (by omega) (by omega) HE.out
        rw [← HXS.out, List.length_map, HN.out] at h1
        omega
      have HLN : Hid ((rowsR ls).length = t * 7) := hid (by rw [rowsR_len, HN.out])
      have HOW : Hid (∀ W : World, W.ownsRow 0 61 7 (.slice none 0 0) 0 (rowsR [])) := hid (fun W => ⟨rfl, Or.inl ⟨rfl, rfl⟩⟩)
      have HFW := hid hin.out.1
      clear hin
      go_wp2_with (at_builtin; refine wpList_appV rfl _ _ 52 rfl 61 7 96 _ Try.underlying52 infoRp rfl (by decide) none 0 0 (rowsR []) rfl (HOW.out _) p t c (rowsR ls) rfl HLN.out (fun _ h => HC.out h) (HRV.out _ HFW.out) (rowsR_one _) (by unfold maxLen; omega) (by omega) ?_)
      intro q cq w2 ho2 hf2 hb2
      have e0 : 0 + t = t := by omega
      try rw [e0] at ho2
      try rw [e0]
      have HFIN := hid (rt_new (f := 0) (a := 0) (r := 0) HN.out HK.out HFW.out ho2.out (by have := hf2.out; simpa [blk] using this) (fun k hk => by have := hb2.out k hk; simpa [blk] using this))
      clear ho2 hf2 hb2
      have hbd : ∀ W, (Instr.build 54 #[(0, .slice q t cq)]).run Try.prog W = .ok (.agg #[.slice q t cq, .int .i64 0, .int .i64 0, .int .i64 0]) W := fun W => run_build W _ _ _ (by kernel_rfl)
      go_wp2_with fail
      first | go_returns | skip
      exact HP2.out _ q cq _ HE.out HFIN.out.2.1 HFIN.out.1 HFIN.out.2.2.1 HFIN.out.2.2.2
end Go.Proofs.Ytbgochkmplacaaa
