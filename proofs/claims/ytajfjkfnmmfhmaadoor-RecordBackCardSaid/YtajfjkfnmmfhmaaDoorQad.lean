/- The statements of layer 1: walks. A region that draws its order, whose last operations come in one order: what comes ahead of them is taken under a condition on the world, which the last ones may break. Speaks of no program. Records: the rows of the kinds. Contracts of package sum: turns to the right, words. -/
import Derived.Test.YtajfjkfnmmfhmaaDoorQac
import Derived.OrdersHeld
import Derived.StillTail
import Derived.Deep.RegionHeld3
import Derived.Test.YtajfjkfnmmfhmaaDoorQab
import Derived.Deep.Cut
import Derived.Laws.EntriesVeiled
import Derived.Test.YtajfjkfnmmfhmaaDoorQaa
import Derived.Laws.BitsAllLaws
import Derived.BigQuiet
namespace Go.Proofs.YtajfjkfnmmfhmaaDoor
section
open Go.RowKit
set_option maxRecDepth 100000

/-- The blocks of A are as they were. -/
def Keeps (A : List Nat) (w w' : World) : Prop := ∀ k ∈ A, w'.heap[k]? = w.heap[k]?
theorem Rd.keeps {w w' : World} {p : Option Addr} {zs : List Int} {A : List Nat} (h : Rd w p zs) (hk : Keeps A w w') (hp : ∀ k ∈ blk p, k ∈ A) : Rd w' p zs := by
  rcases h with h | ⟨g, o, rfl, hc⟩
  · exact Or.inl h
  · refine Or.inr ⟨g, o, rfl, fun i hi => ?_⟩
    rw [World.cell?_of_block (hk g (hp g (by simp [blk])))]
    exact hc i hi
theorem Frm.keeps {S A : List Nat} {w w' : World} (h : Frm S w w') (hA : ∀ k ∈ A, k ∉ S ∧ k < w.heap.size) : Keeps A w w' := fun k hk => h.block k (hA k hk).2 (hA k hk).1
/-- A writer that is new since w0, and nothing elder has turned since; of the blocks of A none is its own. -/
def FreshW (w0 w : World) (b : Nat) (room : Int) (s : List Int × Int) (A : List Nat) : Prop := ∃ fp, IsW w b fp room s.1 s.2 ∧ Frm [] w0 w ∧ (∀ k ∈ fp, w0.heap.size ≤ k) ∧ ∀ k ∈ A, k ∉ fp ∧ k < w.heap.size
theorem FreshW.next {w0 w w' : World} {b : Nat} {room : Int} {fp A : List Nat} {s : List Int × Int} (hF : Frm [] w0 w) (hfp : ∀ k ∈ fp, w0.heap.size ≤ k) (hA : ∀ k ∈ A, k ∉ fp ∧ k < w.heap.size) (h : NowW w b fp room s.1 s.2 w') : FreshW w0 w' b room s A ∧ Keeps A w w' := by
  obtain ⟨fp', h1, h2, h3⟩ := h
  refine ⟨⟨fp', h1, hF.trans h2 (fun i hi hlt => absurd (hfp i hi) (Nat.not_le.2 hlt)), fun k hk => (h3 k hk).elim (hfp k) (fun h => Nat.le_trans hF.size h), fun k hk => ⟨fun hk' => ?_, Nat.lt_of_lt_of_le (hA k hk).2 h2.size⟩⟩, h2.keeps hA⟩
  rcases h3 k hk' with h | h
  · exact (hA k hk).1 h
  · exact absurd (hA k hk).2 (Nat.not_lt.2 h)
theorem FreshW.born {w0 w : World} {b : Nat} {room : Int} (h : IsW w b [b] room [] 0) (hf : Frm [] w0 w) (hb : w0.heap.size ≤ b) : FreshW w0 w b room ([], 0) [] := ⟨[b], h, hf, by simpa using hb, by simp⟩
theorem FreshW.frm {w0 w : World} {b : Nat} {room : Int} {s : List Int × Int} {A : List Nat} (h : FreshW w0 w b room s A) : Frm [] w0 w := by obtain ⟨_, _, h, _⟩ := h; exact h
section
variable (w0 w : World) (b : Nat) (room : Int) (s : List Int × Int) (A : List Nat) (hw : FreshW w0 w b room s A) (hr0 : 0 ≤ room) (hr1 : room ≤ 2147483647) (hz : (s.1.length : Int) ≤ room)
include hw hr0 hr1 hz
theorem numF_any (n k : Int) (hn : 0 ≤ n) (hn2 : n < 18446744073709551616) (hk : -9223372036854775808 ≤ k) (hk2 : k ≤ 9223372036854775807) :
    Calls Tryd.prog 17 #[.pointer (some ⟨b, 0, none⟩), .int .u64 n, .int .i64 k] w fun e w' => e = .returned (.tuple #[]) ∧ FreshW w0 w' b room (stepW room s (numF n k)) A ∧ Keeps A w w' := by
  obtain ⟨fp, h1, h2, h3, h4⟩ := hw
  exact (num_any b fp room s n k w h1 hr0 hr1 hz hn hn2 hk hk2).mono fun e w' h => ⟨h.1, FreshW.next h2 h3 h4 h.2⟩
theorem bytesF_any (p : Option Addr) (ns : List Int) (c : Nat) (hl : ns.length ≤ 140737488355328) (hc : ns = [] → p = none → c = 0) (hrd : Rd w p ns) :
    Calls Tryd.prog 18 #[.pointer (some ⟨b, 0, none⟩), .slice p ns.length c] w fun e w' => e = .returned (.tuple #[]) ∧ FreshW w0 w' b room (stepW room s (ns, 0)) A ∧ Keeps A w w' := by
  obtain ⟨fp, h1, h2, h3, h4⟩ := hw
  exact (bytes_any b fp room s p ns c w h1 hr0 hr1 hz hl hc hrd).mono fun e w' h => ⟨h.1, FreshW.next h2 h3 h4 h.2⟩
theorem textF_any (t : ByteArray) (ht : t.size ≤ maxLen) :
    Calls Tryd.prog 63 #[.pointer (some ⟨b, 0, none⟩), .string t] w fun e w' => e = .returned (.tuple #[]) ∧ FreshW w0 w' b room (stepW room s (textF t)) A ∧ Keeps A w w' := by
  obtain ⟨fp, h1, h2, h3, h4⟩ := hw
  exact (text_any b fp room s t w h1 hr0 hr1 hz ht).mono fun e w' h => ⟨h.1, FreshW.next h2 h3 h4 h.2⟩
end
theorem doneWF_ok (w0 w : World) (b : Nat) (room : Int) (zs : List Int) (A : List Nat) (hw : FreshW w0 w b room (zs, 0) A) (hr1 : room ≤ 2147483647) (hz : (zs.length : Int) ≤ room) :
    Calls Tryd.prog 16 #[.pointer (some ⟨b, 0, none⟩)] w fun e w' => ∃ g, e = .returned (.tuple #[.slice (some ⟨g, 0, none⟩) zs.length zs.length, .int .i64 0]) ∧ Rd w' (some ⟨g, 0, none⟩) zs ∧ FreshW w0 w' b room (zs, 0) (g :: A) ∧ Keeps A w w' ∧ w0.heap.size ≤ g ∧ g < w'.heap.size := by
  obtain ⟨fp, h1, h2, h3, h4⟩ := hw
  refine (doneW_ok b fp room zs w h1 hr1 hz).mono ?_
  rintro e w' ⟨g, he, hg, hf, hsz⟩
  refine ⟨g, he, (own_of_block (E := 5) hg (by unfold maxLen; omega)).rd, ⟨fp, h1.kept hf (by simp), h2.trans hf (by simp), h3, ?_⟩, hf.keeps (fun k hk => ⟨by simp, (h4 k hk).2⟩), Nat.le_trans h2.size hsz, lt_of_heap hg⟩
  intro k hk
  simp at hk
  rcases hk with rfl | hk
  · exact ⟨fun h => absurd (h1.lt k h) (Nat.not_lt.2 hsz), lt_of_heap hg⟩
  · exact ⟨(h4 k hk).1, Nat.lt_of_lt_of_le (h4 k hk).2 hf.size⟩
theorem doneWF_err (w0 w : World) (b : Nat) (room err : Int) (zs : List Int) (A : List Nat) (hw : FreshW w0 w b room (zs, err) A) (he : err ≠ 0) :
    Calls Tryd.prog 16 #[.pointer (some ⟨b, 0, none⟩)] w fun e w' => e = .returned (.tuple #[.slice none 0 0, .int .i64 err]) ∧ FreshW w0 w' b room (zs, err) A ∧ Keeps A w w' := by
  obtain ⟨fp, h1, h2, h3, h4⟩ := hw
  refine (doneW_err b fp room err zs w h1 he).mono ?_
  rintro e w' ⟨he, hf⟩
  exact ⟨he, ⟨fp, h1.kept hf (by simp), h2.trans hf (by simp), h3, fun k hk => ⟨(h4 k hk).1, Nat.lt_of_lt_of_le (h4 k hk).2 hf.size⟩⟩, hf.keeps (fun k hk => ⟨by simp, (h4 k hk).2⟩)⟩
/-- A reader that is new since w0, and nothing elder has turned since. -/
def FreshR (w0 w : World) (b g : Nat) (bs : List Int) (pos : Nat) (err : Int) : Prop := IsR w b g bs pos err ∧ Frm [] w0 w ∧ w0.heap.size ≤ b ∧ w0.heap.size ≤ g
theorem FreshR.next {w0 w w' : World} {b g : Nat} {bs : List Int} {pos pos' : Nat} {err err' : Int} (h : FreshR w0 w b g bs pos err) (hr : IsR w' b g bs pos' err') (hf : Frm [b] w w') : FreshR w0 w' b g bs pos' err' :=
  ⟨hr, h.2.1.trans hf (fun i hi hlt => by simp at hi; have := h.2.2.1; omega), h.2.2⟩
theorem FreshR.drewN {w0 w : World} {b g : Nat} {bs : List Int} {pos : Nat} {err : Int} (h : FreshR w0 w b g bs pos err) (n : Nat) : FreshR w0 (w.drewN n) b g bs pos err :=
  ⟨h.1.kept ((Frm.refl [] w).drewN n) (by simp) (by simp), h.2.1.drewN n, h.2.2⟩
theorem le_bd (n : Int) (k : Nat) : ∀ z ∈ le n k, 0 ≤ z ∧ z < 256 := by
  intro z hz; simp [le] at hz; obtain ⟨i, _, rfl⟩ := hz; omega
theorem leV_le (n : Nat) (k : Nat) : leV (le (n : Int) k) = ((n % 2 ^ (8 * k) : Nat) : Int) := by
  induction k with
  | zero => simp [le, leV, Nat.mod_one]
  | succ k ih =>
    rw [le_succ, leV_snoc, ih, le_length]
    have e : (2 : Nat) ^ (8 * (k + 1)) = 2 ^ (8 * k) * 256 := by rw [Nat.mul_add, Nat.pow_add]
    rw [e, Nat.mod_mul, show ((2 : Int) ^ (8 * k)) = ((2 ^ (8 * k) : Nat) : Int) by simp]
    generalize 2 ^ (8 * k) = q
    rw [Int.natCast_add, Int.natCast_mul, Int.natCast_emod (n / q) 256, Int.natCast_ediv, Int.mul_comm]
    rfl
theorem leV_fit (n : Int) (k : Nat) (hn : 0 ≤ n) (h : n / 2 ^ (8 * k) = 0) : leV (le n k) = n := by
  obtain ⟨m, rfl⟩ := Int.eq_ofNat_of_zero_le hn
  rw [leV_le]
  have h2 : ((m / 2 ^ (8 * k) : Nat) : Int) = 0 := by rw [Int.natCast_ediv]; simpa using h
  have h3 : m / 2 ^ (8 * k) = 0 := by omega
  have hq : 0 < 2 ^ (8 * k) := Nat.pow_pos (by decide)
  rw [Nat.mod_eq_of_lt]
  exact (Nat.div_eq_zero_iff_lt hq).1 h3
end
section
section
variable {P : Program} {ops : Array Oper} {Q : Exit → Act → World → Prop} {md : Region.Mode} {S : World → Prop}
/-- The first so many operations in whatever order, the condition behind each of them; then what 'L' says. -/
def wpAnyHT (P : Program) (md : Region.Mode) (ops : Array Oper) (Q : Exit → Act → World → Prop) (S : World → Prop) (n : Nat) (L : Array Bool → Act → World → Prop) : Nat → Array Bool → Act → World → Prop
  | 0, listed, a, w => L listed a w
  | f + 1, listed, a, w =>
    Region.ready md ops listed ≠ [] ∧ ∀ i ∈ Region.ready md ops listed, i < n ∧ wpOp P ops Q i (fun a' w' => S w' ∧ wpAnyHT P md ops Q S n L f (listed.setIfInBounds i true) a' w') a w
theorem wpAny_of_headT {n g : Nat} {L : Array Bool → Act → World → Prop} (hL : ∀ listed a w, L listed a w → wpAny P md ops Q g listed a w) :
    ∀ (f : Nat) (listed : Array Bool) (a : Act) (w : World), wpAnyHT P md ops Q S n L f listed a w → wpAny P md ops Q (f + g) listed a w
  | 0, listed, a, w, h => by rw [Nat.zero_add]; exact hL _ _ _ h
  | f + 1, listed, a, w, h => by
    rw [show f + 1 + g = (f + g) + 1 by omega]
    exact ⟨fun h0 => absurd h0 h.1, fun i hi => wpOp_mono (fun a' w' h' => wpAny_of_headT hL f _ a' w' h'.2) (h.2 i hi).2⟩
theorem wpAnyHT_first {n i : Nat} {oi : Oper} {v : Value} {L : Array Bool → Act → World → Prop} (hi : ops[i]? = some oi) (hsel : ∀ (j : Nat) (o : Oper) cs b, ops[j]? = some o → o.op ≠ .select cs b)
    (hQ : ∀ c a w, Q (.panic c) (a.put oi.dst v) w → Q (.panic c) a w)
    (hs : Region.sinkB md ops n = true) (hc : Region.chainB md ops n = true) (hn : n < ops.size) (hin : i < n)
    (hdone : ∀ listed a w, L listed a w → ∀ j ∈ Region.ready md ops listed, n ≤ j) :
    ∀ (f : Nat) (listed : Array Bool) (a : Act) (w : World), HeadInv md ops n listed →
      (∀ j oj, ops[j]? = some oj → j ≠ i → listed.getD j true = false → (∀ e ∈ oj.after, Region.binds md e = true → e.on ≠ i) → oi.apart ops oj = true) →
      i ∈ Region.ready md ops listed → YieldsIf P ops S oi v a → S w →
      wpAnyHT P md ops Q S n L f (listed.setIfInBounds i true) (a.put oi.dst v) w → wpAnyHT P md ops Q S n L (f + 1) listed a w := by
  intro f
  induction f with
  | zero =>
    intro listed a w inv _ hr hy hS H
    have hun := (mem_ready.1 hr).1
    refine ⟨fun h => (by rw [h] at hr; cases hr), fun j hj => ?_⟩
    have hjn : j < n := by
      rcases Nat.lt_or_ge j n with h | h
      · exact h
      · exact absurd hj (tail_waits hs hc hn inv _ i rfl hin hun j h)
    refine ⟨hjn, ?_⟩
    by_cases hji : j = i
    · subst hji; exact hy.wpOp hi hS ⟨hS, H⟩
    · have := hdone _ _ _ H j (ready_mono hj hji)
      omega
  | succ f ih =>
    intro listed a w inv hfree hr hy hS H
    have hun := (mem_ready.1 hr).1
    refine ⟨fun h => (by rw [h] at hr; cases hr), fun j hj => ?_⟩
    have hjn : j < n := by
      rcases Nat.lt_or_ge j n with h | h
      · exact h
      · exact absurd hj (tail_waits hs hc hn inv _ i rfl hin hun j h)
    refine ⟨hjn, ?_⟩
    by_cases hji : j = i
    · subst hji; exact hy.wpOp hi hS ⟨hS, H⟩
    · have h1 := (H.2 j (ready_mono hj hji)).2
      obtain ⟨hjun, oj, hoj, hall⟩ := mem_ready.1 hj
      have hnot : ∀ e ∈ oj.after, Region.binds md e = true → e.on ≠ i := fun e he hb heq => by
        have h1 := hall e he hb
        rw [heq, getD_both hun] at h1
        cases h1
      have h2 := wpOp_putIf hoj (hfree j oj hoj hji hjun hnot) (fun cs b => hsel i oi cs b hi) (fun cs b => hsel j oj cs b hoj) hQ hy h1
      have hfree' : ∀ k ok, ops[k]? = some ok → k ≠ i → (listed.setIfInBounds j true).getD k true = false →
          (∀ e ∈ ok.after, Region.binds md e = true → e.on ≠ i) → oi.apart ops ok = true := fun k ok hk hki hun hno => by
        refine hfree k ok hk hki ?_ hno
        by_cases hjk : j = k
        · subst hjk; exact hjun
        · rw [getD_set_ne true hjk] at hun; exact hun
      refine wpOp_mono (fun a' w' h3 => ⟨h3.2.1, ih (listed.setIfInBounds j true) a' w' (inv.set hj hjn) hfree' (ready_mono hr (Ne.symm hji)) h3.1 h3.2.1 ?_⟩) h2
      rw [Array.setIfInBounds_comm _ _ hji]
      exact h3.2.2
/-- What 'HeadInv' asks, as a Bool. -/
def headInvB (md : Region.Mode) (ops : Array Oper) (n : Nat) (listed : Array Bool) : Bool :=
  decide (listed.size = ops.size) &&
  ((List.range ops.size).all fun j => !listed.getD j false || (match ops[j]? with | some oj => oj.after.all fun e => !Region.binds md e || listed.getD e.on false | none => true)) &&
  ((List.range ops.size).all fun t => decide (t < n) || !listed.getD t true)
theorem headInv_of {n : Nat} {listed : Array Bool} (h : headInvB md ops n listed = true) : HeadInv md ops n listed := by
  unfold headInvB at h
  simp only [Bool.and_eq_true, decide_eq_true_eq] at h
  obtain ⟨⟨h1, h2⟩, h3⟩ := h
  refine ⟨h1, fun j oj hj hl e he hb => ?_, fun t ht htl => ?_⟩
  · have hjlt : j < ops.size := (Array.getElem?_eq_some_iff.1 hj).1
    have h := List.all_eq_true.1 h2 j (List.mem_range.2 hjlt)
    rw [hl, hj] at h
    simp only [Bool.not_true, Bool.false_or] at h
    have h4 := Array.all_eq_true'.1 h e he
    rw [hb] at h4
    simpa using h4
  · have h := List.all_eq_true.1 h3 t (List.mem_range.2 htl)
    simp only [Bool.or_eq_true, decide_eq_true_eq] at h
    rcases h with h | h
    · omega
    · simpa using h
/-- What is asked of the region's form. -/
def tailB (md : Region.Mode) (ops : Array Oper) (n : Nat) : Bool := Region.noSelect ops && decide (n < ops.size) && Region.sinkB md ops n && Region.chainB md ops n
/-- Behind the head: the last ones in their order. -/
def TailL (P : Program) (ops : Array Oper) (Q : Exit → Act → World → Prop) (n : Nat) (l : List Oper) : Array Bool → Act → World → Prop :=
  fun listed a w => Region.seqB .any ops l.length n listed = true ∧ wpList P ops Q l a w
theorem wpAnyHT_take {n i : Nat} {l : List Oper} {oi : Oper} {v : Value} {fuel : Nat} {listed : Array Bool} {a : Act} {w : World} (hB : tailB .any ops n = true) (hi : ops[i]? = some oi) (hin : decide (i < n) = true)
    (hf : Region.free .any ops listed i = true) (hr : (Region.ready .any ops listed).contains i = true) (hI : headInvB .any ops n listed = true)
    (hQ : ∀ c a w, Q (.panic c) (a.put oi.dst v) w → Q (.panic c) a w) (hy : YieldsIf P ops S oi v a) (hS : S w)
    (h : wpAnyHT P .any ops Q S n (TailL P ops Q n l) fuel (listed.setIfInBounds i true) (a.put oi.dst v) w) : wpAnyHT P .any ops Q S n (TailL P ops Q n l) (fuel + 1) listed a w := by
  simp only [tailB, Bool.and_eq_true, decide_eq_true_eq] at hB hin
  obtain ⟨⟨⟨hsel, hn⟩, hs⟩, hc⟩ := hB
  exact wpAnyHT_first hi (Region.noSelect_spec hsel) hQ hs hc hn hin (fun listed a w hL => seqB_ready hL.1) fuel listed a w (headInv_of hI) (Region.free_spec hi hf) (by simpa using hr) hy hS h
/-- One alone may come up: it is carried out, and the condition is shown anew. -/
theorem wpAnyHT_one {n i : Nat} {L : Array Bool → Act → World → Prop} {o : Oper} {fuel : Nat} {listed : Array Bool} {a : Act} {w : World} (ho : ops[i]? = some o) (hr : Region.ready md ops listed = [i]) (hin : decide (i < n) = true)
    (h : ∀ K' : Act → World → Prop, (∀ a w, S w → wpAnyHT P md ops Q S n L fuel (listed.setIfInBounds i true) a w → K' a w) → if Region.wanted o (yielded ops a.tmps) = true then Oper.wp P o a w K' Q else K' (a.put o.dst undef) w) :
    wpAnyHT P md ops Q S n L (fuel + 1) listed a w := by
  refine ⟨by rw [hr]; simp, fun j hj => ?_⟩
  rw [hr, List.mem_singleton] at hj
  subst hj
  exact ⟨of_decide_eq_true hin, wpOp_step ho (fun K' hK => h K' (fun a w hS hW => hK a w ⟨hS, hW⟩))⟩
theorem wpAnyHT_end {n : Nat} {l : List Oper} {listed : Array Bool} {a : Act} {w : World} (hq : Region.seqB .any ops l.length n listed = true) (h : wpList P ops Q l a w) : wpAnyHT P .any ops Q S n (TailL P ops Q n l) 0 listed a w := ⟨hq, h⟩
/-- The beginning. -/
theorem wp_region_tail {id : Nat} {a : Act} {w : World} {l : List Oper} (n m : Nat) (hlen : l.length = m) (hm : P.follows .mixedOrders = true) (hn : decide (n ≤ l.length) = true)
    (h : wpAnyHT P .any l.toArray Q S n (TailL P l.toArray Q n (l.drop n)) n (Array.replicate m false) a w.drew) : (Code.region id l.toArray true).wp P Q a w := by
  have hn' : n ≤ l.length := of_decide_eq_true hn
  subst hlen
  refine wp_region_any hm ?_
  have := wpAny_of_headT (Q := Q) (g := (l.drop n).length) (fun listed a' w' hL => wpAny_of_seq (md := .any) (Q' := Q) (l.drop n) n listed a' w' (fun j => by simp [List.getElem?_drop]) hL.1 hL.2) _ _ _ _ h
  rw [List.length_drop, show n + (l.length - n) = l.length by omega] at this
  simpa using this
end
end
section
open Go.RowKit Go.Lib
set_option maxRecDepth 100000

def rwC : Array Value := #[.func (.func 25) #[] #[], .func (.func 26) #[] #[], .func (.func 27) #[] #[], .func (.func 28) #[] #[]]
def rw1 : Array Value := #[.func (.func 29) #[] #[], .func (.func 30) #[] #[], .func (.func 31) #[] #[], .func (.func 32) #[] #[]]
def rw2 : Array Value := #[.func (.func 33) #[] #[], .func (.func 34) #[] #[], .func (.func 35) #[] #[], .func (.func 36) #[] #[]]
def rw3 : Array Value := #[.func (.func 37) #[] #[], .func (.func 38) #[] #[], .func (.func 39) #[] #[], .func (.func 40) #[] #[]]
def rw4 : Array Value := #[.func (.func 41) #[] #[], .func (.func 42) #[] #[], .func (.func 43) #[] #[], .func (.func 44) #[] #[]]
def rw5 : Array Value := #[.func (.func 45) #[] #[], .func (.func 46) #[] #[], .func (.func 47) #[] #[], .func (.func 48) #[] #[]]
/-- The first entries of the rows. -/
def rowsT : Nat → Array MapEntry
  | 0 => #[]
  | 1 => #[⟨.int .i64 1, .agg rw1, 0⟩]
  | 2 => #[⟨.int .i64 1, .agg rw1, 0⟩, ⟨.int .i64 2, .agg rw2, 1⟩]
  | 3 => #[⟨.int .i64 1, .agg rw1, 0⟩, ⟨.int .i64 2, .agg rw2, 1⟩, ⟨.int .i64 3, .agg rw3, 2⟩]
  | 4 => #[⟨.int .i64 1, .agg rw1, 0⟩, ⟨.int .i64 2, .agg rw2, 1⟩, ⟨.int .i64 3, .agg rw3, 2⟩, ⟨.int .i64 4, .agg rw4, 3⟩]
  | 5 => #[⟨.int .i64 1, .agg rw1, 0⟩, ⟨.int .i64 2, .agg rw2, 1⟩, ⟨.int .i64 3, .agg rw3, 2⟩, ⟨.int .i64 4, .agg rw4, 3⟩, ⟨.int .i64 5, .agg rw5, 4⟩]
  | 6 => #[⟨.int .i64 1, .agg rw1, 0⟩, ⟨.int .i64 2, .agg rw2, 1⟩, ⟨.int .i64 3, .agg rw3, 2⟩, ⟨.int .i64 4, .agg rw4, 3⟩, ⟨.int .i64 5, .agg rw5, 4⟩, ⟨.int .i64 6, .agg rwC, 5⟩]
  | _ => #[⟨.int .i64 1, .agg rw1, 0⟩, ⟨.int .i64 2, .agg rw2, 1⟩, ⟨.int .i64 3, .agg rw3, 2⟩, ⟨.int .i64 4, .agg rw4, 3⟩, ⟨.int .i64 5, .agg rw5, 4⟩, ⟨.int .i64 6, .agg rwC, 5⟩, ⟨.int .i64 7, .agg rwC, 6⟩]
theorem rowsT_int (t : Nat) : IntK (rowsT t).toList := by
  intro e he
  unfold rowsT at he
  split at he <;> simp at he
  all_goals (rcases he with rfl | rfl | rfl | rfl | rfl | rfl | rfl <;> exact ⟨_, rfl⟩)
/-- One more row. -/
theorem put_row {w : World} {r : Nat} (t : Nat) (k : Int) (v : Array Value) (hb : w.heap[r]? = some (.map (rowsT t) t)) (hn : lkR k (rowsT t).toList = none) (hs : (rowsT t).push ⟨.int .i64 k, .agg v, t⟩ = rowsT (t + 1)) :
    ∃ w' : World, (Instr.mapUpdate 53 (.map (some r)) (.int .i64 k) (.agg v)).run Tryd.prog w = .ok () w' ∧ w'.heap[r]? = some (.map (rowsT (t + 1)) (t + 1)) ∧ Frm [r] w w' := by
  have h := run_putR (P := Tryd.prog) (w := w) 53 3 51 r t (rowsT t) k (.agg v) Tryd.underlying53 Tryd.underlying3 hb (rowsT_int t) hn
  rw [hs] at h
  have hlt := (Array.getElem?_eq_some_iff.1 hb).1
  refine ⟨_, h, by simp [hlt], ⟨rfl, rfl, rfl, by simp, fun k _ hn => ?_⟩⟩
  have hne : r ≠ k := fun e => hn (by rw [e]; simp)
  simp [hne]
set_option maxHeartbeats 3200000 in
theorem rows_any (w : World) : Calls Tryd.prog 13 #[] w fun e w' => ∃ b, e = .returned (.map (some b)) ∧ w.heap.size ≤ b ∧ w'.heap[b]? = some (.map (rowsT 7) 7) ∧ Frm [] w w' := by
  obtain ⟨PO, hPO⟩ : ∃ PO : Ending → World → Prop, (fun e w' => ∃ b, e = .returned (.map (some b)) ∧ w.heap.size ≤ b ∧ w'.heap[b]? = some (.map (rowsT 7) 7) ∧ Frm [] w w') = PO := ⟨_, rfl⟩
  rw [hPO]
  have HP : Hid (∀ b w', w.heap.size ≤ b → w'.heap[b]? = some (.map (rowsT 7) 7) → Frm [] w w' → PO (.returned (.map (some b))) w') := hid (fun b w' h1 h2 h3 => by rw [← hPO]; exact ⟨b, rfl, h1, h2, h3⟩)
  have hmm := @run_makeMap Tryd.prog
  have hb0 : ∀ V, (Instr.build 51 #[(0, .func (.func 29) #[] #[]), (1, .func (.func 30) #[] #[]), (2, .func (.func 31) #[] #[]), (3, .func (.func 32) #[] #[])]).run Tryd.prog V = .ok (.agg #[.func (.func 29) #[] #[], .func (.func 30) #[] #[], .func (.func 31) #[] #[], .func (.func 32) #[] #[]]) V := fun V => run_build V _ _ _ (by kernel_rfl)
  have hb1 : ∀ V, (Instr.build 51 #[(0, .func (.func 33) #[] #[]), (1, .func (.func 34) #[] #[]), (2, .func (.func 35) #[] #[]), (3, .func (.func 36) #[] #[])]).run Tryd.prog V = .ok (.agg #[.func (.func 33) #[] #[], .func (.func 34) #[] #[], .func (.func 35) #[] #[], .func (.func 36) #[] #[]]) V := fun V => run_build V _ _ _ (by kernel_rfl)
  have hb2 : ∀ V, (Instr.build 51 #[(0, .func (.func 37) #[] #[]), (1, .func (.func 38) #[] #[]), (2, .func (.func 39) #[] #[]), (3, .func (.func 40) #[] #[])]).run Tryd.prog V = .ok (.agg #[.func (.func 37) #[] #[], .func (.func 38) #[] #[], .func (.func 39) #[] #[], .func (.func 40) #[] #[]]) V := fun V => run_build V _ _ _ (by kernel_rfl)
  have hb3 : ∀ V, (Instr.build 51 #[(0, .func (.func 41) #[] #[]), (1, .func (.func 42) #[] #[]), (2, .func (.func 43) #[] #[]), (3, .func (.func 44) #[] #[])]).run Tryd.prog V = .ok (.agg #[.func (.func 41) #[] #[], .func (.func 42) #[] #[], .func (.func 43) #[] #[], .func (.func 44) #[] #[]]) V := fun V => run_build V _ _ _ (by kernel_rfl)
  have hb4 : ∀ V, (Instr.build 51 #[(0, .func (.func 45) #[] #[]), (1, .func (.func 46) #[] #[]), (2, .func (.func 47) #[] #[]), (3, .func (.func 48) #[] #[])]).run Tryd.prog V = .ok (.agg #[.func (.func 45) #[] #[], .func (.func 46) #[] #[], .func (.func 47) #[] #[], .func (.func 48) #[] #[]]) V := fun V => run_build V _ _ _ (by kernel_rfl)
  have hb5 : ∀ V, (Instr.build 51 #[(0, .func (.func 25) #[] #[]), (1, .func (.func 26) #[] #[]), (2, .func (.func 27) #[] #[]), (3, .func (.func 28) #[] #[])]).run Tryd.prog V = .ok (.agg #[.func (.func 25) #[] #[], .func (.func 26) #[] #[], .func (.func 27) #[] #[], .func (.func 28) #[] #[]]) V := fun V => run_build V _ _ _ (by kernel_rfl)
  obtain ⟨w1, hw1⟩ : ∃ z, w.alloc (.cells #[.func (.func 25) #[] #[], .func (.func 26) #[] #[], .func (.func 27) #[] #[], .func (.func 28) #[] #[]] 51) = z := ⟨_, rfl⟩
  have hrow := heap_alloc_new w (.cells #[.func (.func 25) #[] #[], .func (.func 26) #[] #[], .func (.func 27) #[] #[], .func (.func 28) #[] #[]] 51)
  have hf1 : Frm [] w w1 := by rw [← hw1]; exact (Frm.refl _ _).alloc _
  obtain ⟨cr, hcr⟩ : ∃ z, w.heap.size = z := ⟨_, rfl⟩
  rw [hw1, hcr] at hrow
  have g0 := heap_alloc_new w1 (.map #[] 0)
  have hf2 : Frm [] w1 (w1.alloc (.map #[] 0)) := (Frm.refl _ _).alloc _
  have hlt := lt_of_heap hrow
  obtain ⟨w2, hw2⟩ : ∃ z, w1.alloc (.map #[] 0) = z := ⟨_, rfl⟩
  obtain ⟨mb, hmb⟩ : ∃ z, w1.heap.size = z := ⟨_, rfl⟩
  rw [hmb] at g0 hlt
  rw [hw2] at g0 hf2
  obtain ⟨w3, e1, g1, k1⟩ := put_row (w := w2) 0 1 rw1 g0 rfl rfl
  obtain ⟨w4, e2, g2, k2⟩ := put_row (w := w3) 1 2 rw2 g1 rfl rfl
  obtain ⟨w5, e3, g3, k3⟩ := put_row (w := w4) 2 3 rw3 g2 rfl rfl
  obtain ⟨w6, e4, g4, k4⟩ := put_row (w := w5) 3 4 rw4 g3 rfl rfl
  obtain ⟨w7, e5, g5, k5⟩ := put_row (w := w6) 4 5 rw5 g4 rfl rfl
  obtain ⟨w8, e6, g6, k6⟩ := put_row (w := w7) 5 6 rwC g5 rfl rfl
  obtain ⟨w9, e7, g7, k7⟩ := put_row (w := w8) 6 7 rwC g6 rfl rfl
  unfold rw1 at e1
  unfold rw2 at e2
  unfold rw3 at e3
  unfold rw4 at e4
  unfold rw5 at e5
  unfold rwC at e6 e7
  have hall : Frm [mb] w2 w9 := ((((((k1.trans k2 (fun i hi _ => hi)).trans k3 (fun i hi _ => hi)).trans k4 (fun i hi _ => hi)).trans k5 (fun i hi _ => hi)).trans k6 (fun i hi _ => hi)).trans k7 (fun i hi _ => hi))
  have h7 : w7.heap[cr]? = some (.cells #[.func (.func 25) #[] #[], .func (.func 26) #[] #[], .func (.func 27) #[] #[], .func (.func 28) #[] #[]] 51 (0, 0)) := (((((k1.trans k2 (fun i hi _ => hi)).trans k3 (fun i hi _ => hi)).trans k4 (fun i hi _ => hi)).trans k5 (fun i hi _ => hi))).heap (hf2.heap hrow (by simp)) (by simp; omega)
  have h8 : w8.heap[cr]? = some (.cells #[.func (.func 25) #[] #[], .func (.func 26) #[] #[], .func (.func 27) #[] #[], .func (.func 28) #[] #[]] 51 (0, 0)) := k6.heap h7 (by simp; omega)
  have x0 : w7.cell? ⟨cr, 0, none⟩ = some (.func (.func 25) #[] #[]) := by rw [cell_of_row _ _ _ _ _ _ h7]; rfl
  have y0 : w8.cell? ⟨cr, 0, none⟩ = some (.func (.func 25) #[] #[]) := by rw [cell_of_row _ _ _ _ _ _ h8]; rfl
  have x1 : w7.cell? ⟨cr, 1, none⟩ = some (.func (.func 26) #[] #[]) := by rw [cell_of_row _ _ _ _ _ _ h7]; rfl
  have y1 : w8.cell? ⟨cr, 1, none⟩ = some (.func (.func 26) #[] #[]) := by rw [cell_of_row _ _ _ _ _ _ h8]; rfl
  have x2 : w7.cell? ⟨cr, 2, none⟩ = some (.func (.func 27) #[] #[]) := by rw [cell_of_row _ _ _ _ _ _ h7]; rfl
  have y2 : w8.cell? ⟨cr, 2, none⟩ = some (.func (.func 27) #[] #[]) := by rw [cell_of_row _ _ _ _ _ _ h8]; rfl
  have x3 : w7.cell? ⟨cr, 3, none⟩ = some (.func (.func 28) #[] #[]) := by rw [cell_of_row _ _ _ _ _ _ h7]; rfl
  have y3 : w8.cell? ⟨cr, 3, none⟩ = some (.func (.func 28) #[] #[]) := by rw [cell_of_row _ _ _ _ _ _ h8]; rfl
  have HX : Hid (w.heap.size ≤ mb ∧ w9.heap[mb]? = some (.map (rowsT 7) 7) ∧ Frm [] w w9) := hid ⟨by omega, g7, (hf1.trans hf2 (by simp)).trans hall (fun i hi hl => by rw [List.mem_singleton] at hi; omega)⟩
  have HW1 := hid hw1
  have HCR := hid hcr
  have HW2 := hid hw2
  have HMB := hid hmb
  clear hw1 hcr hw2 hmb hPO hrow hf1 g0 hf2 hlt g1 g2 g3 g4 g5 g6 g7 k1 k2 k3 k4 k5 k6 k7 hall h7 h8
  go_enter Tryd.func13, Tryd.ntmps13
  go_upto_region 2 with fail
  first | rw [HCR.out] | skip
  first | rw [HW1.out] | skip
  rw [← HW2.out] at e1
  rw [← HMB.out] at e1 e2 e3 e4 e5 e6 e7
  go_wp2_with fail
  first | go_returns | skip
  show PO (.returned (.map (some w1.heap.size))) w9
  rw [HMB.out]
  exact HP.out _ _ HX.out.1 HX.out.2.1 HX.out.2.2
end
section
open Go.RowKit
set_option maxRecDepth 100000

theorem rd_byte {w : World} {p : Option Addr} {zs : List Int} {i : Nat} (h : Rd w p zs) (hi : i < zs.length) : ∃ g o, p = some ⟨g, o, none⟩ ∧ w.cell? ⟨g, o + i, none⟩ = some (.int .u8 (zs.getD i 0)) := by
  rcases h with h | ⟨g, o, rfl, hc⟩
  · subst h; simp at hi
  · exact ⟨g, o, rfl, hc i hi⟩
/-- x turned to the right by k bits (k from 1 to 31). -/
def ror (x : Int) (k : Nat) : Int := bits .or .u32 (IntKind.u32.wrap (x * 2 ^ (32 - k))) (x / 2 ^ k)
theorem rotl_2 (x : Int) (w : World) :
    Calls Tryd.prog 94 #[.int .u32 x, .int .i64 (-2)] w fun e w' => e = .returned (.int .u32 (ror x 2)) ∧ w' = w := by
  have h1 : bits .and .u64 (IntKind.u64.wrap (-2)) 31 = 30 := by decide +kernel
  go_enter Tryd.func94, Tryd.ntmps94
  go_wp2_with fail
  go_returns
  exact ⟨rfl, rfl⟩
theorem right_2 (x : Int) (w : World) :
    Calls Tryd.prog 91 #[.int .u32 x, .int .i64 2] w fun e w' => e = .returned (.int .u32 (ror x 2)) ∧ w' = w := by
  go_enter Tryd.func91, Tryd.ntmps91
  go_wp2_with fail
  refine (rotl_2 x w).mono ?_
  rintro e w1 ⟨rfl, rfl⟩
  go_wp2_with fail
  go_returns
  exact ⟨rfl, rfl⟩
theorem rotl_6 (x : Int) (w : World) :
    Calls Tryd.prog 94 #[.int .u32 x, .int .i64 (-6)] w fun e w' => e = .returned (.int .u32 (ror x 6)) ∧ w' = w := by
  have h1 : bits .and .u64 (IntKind.u64.wrap (-6)) 31 = 26 := by decide +kernel
  go_enter Tryd.func94, Tryd.ntmps94
  go_wp2_with fail
  go_returns
  exact ⟨rfl, rfl⟩
theorem right_6 (x : Int) (w : World) :
    Calls Tryd.prog 91 #[.int .u32 x, .int .i64 6] w fun e w' => e = .returned (.int .u32 (ror x 6)) ∧ w' = w := by
  go_enter Tryd.func91, Tryd.ntmps91
  go_wp2_with fail
  refine (rotl_6 x w).mono ?_
  rintro e w1 ⟨rfl, rfl⟩
  go_wp2_with fail
  go_returns
  exact ⟨rfl, rfl⟩
theorem rotl_7 (x : Int) (w : World) :
    Calls Tryd.prog 94 #[.int .u32 x, .int .i64 (-7)] w fun e w' => e = .returned (.int .u32 (ror x 7)) ∧ w' = w := by
  have h1 : bits .and .u64 (IntKind.u64.wrap (-7)) 31 = 25 := by decide +kernel
  go_enter Tryd.func94, Tryd.ntmps94
  go_wp2_with fail
  go_returns
  exact ⟨rfl, rfl⟩
theorem right_7 (x : Int) (w : World) :
    Calls Tryd.prog 91 #[.int .u32 x, .int .i64 7] w fun e w' => e = .returned (.int .u32 (ror x 7)) ∧ w' = w := by
  go_enter Tryd.func91, Tryd.ntmps91
  go_wp2_with fail
  refine (rotl_7 x w).mono ?_
  rintro e w1 ⟨rfl, rfl⟩
  go_wp2_with fail
  go_returns
  exact ⟨rfl, rfl⟩
theorem rotl_11 (x : Int) (w : World) :
    Calls Tryd.prog 94 #[.int .u32 x, .int .i64 (-11)] w fun e w' => e = .returned (.int .u32 (ror x 11)) ∧ w' = w := by
  have h1 : bits .and .u64 (IntKind.u64.wrap (-11)) 31 = 21 := by decide +kernel
  go_enter Tryd.func94, Tryd.ntmps94
  go_wp2_with fail
  go_returns
  exact ⟨rfl, rfl⟩
theorem right_11 (x : Int) (w : World) :
    Calls Tryd.prog 91 #[.int .u32 x, .int .i64 11] w fun e w' => e = .returned (.int .u32 (ror x 11)) ∧ w' = w := by
  go_enter Tryd.func91, Tryd.ntmps91
  go_wp2_with fail
  refine (rotl_11 x w).mono ?_
  rintro e w1 ⟨rfl, rfl⟩
  go_wp2_with fail
  go_returns
  exact ⟨rfl, rfl⟩
theorem rotl_13 (x : Int) (w : World) :
    Calls Tryd.prog 94 #[.int .u32 x, .int .i64 (-13)] w fun e w' => e = .returned (.int .u32 (ror x 13)) ∧ w' = w := by
  have h1 : bits .and .u64 (IntKind.u64.wrap (-13)) 31 = 19 := by decide +kernel
  go_enter Tryd.func94, Tryd.ntmps94
  go_wp2_with fail
  go_returns
  exact ⟨rfl, rfl⟩
theorem right_13 (x : Int) (w : World) :
    Calls Tryd.prog 91 #[.int .u32 x, .int .i64 13] w fun e w' => e = .returned (.int .u32 (ror x 13)) ∧ w' = w := by
  go_enter Tryd.func91, Tryd.ntmps91
  go_wp2_with fail
  refine (rotl_13 x w).mono ?_
  rintro e w1 ⟨rfl, rfl⟩
  go_wp2_with fail
  go_returns
  exact ⟨rfl, rfl⟩
theorem rotl_17 (x : Int) (w : World) :
    Calls Tryd.prog 94 #[.int .u32 x, .int .i64 (-17)] w fun e w' => e = .returned (.int .u32 (ror x 17)) ∧ w' = w := by
  have h1 : bits .and .u64 (IntKind.u64.wrap (-17)) 31 = 15 := by decide +kernel
  go_enter Tryd.func94, Tryd.ntmps94
  go_wp2_with fail
  go_returns
  exact ⟨rfl, rfl⟩
theorem right_17 (x : Int) (w : World) :
    Calls Tryd.prog 91 #[.int .u32 x, .int .i64 17] w fun e w' => e = .returned (.int .u32 (ror x 17)) ∧ w' = w := by
  go_enter Tryd.func91, Tryd.ntmps91
  go_wp2_with fail
  refine (rotl_17 x w).mono ?_
  rintro e w1 ⟨rfl, rfl⟩
  go_wp2_with fail
  go_returns
  exact ⟨rfl, rfl⟩
theorem rotl_18 (x : Int) (w : World) :
    Calls Tryd.prog 94 #[.int .u32 x, .int .i64 (-18)] w fun e w' => e = .returned (.int .u32 (ror x 18)) ∧ w' = w := by
  have h1 : bits .and .u64 (IntKind.u64.wrap (-18)) 31 = 14 := by decide +kernel
  go_enter Tryd.func94, Tryd.ntmps94
  go_wp2_with fail
  go_returns
  exact ⟨rfl, rfl⟩
theorem right_18 (x : Int) (w : World) :
    Calls Tryd.prog 91 #[.int .u32 x, .int .i64 18] w fun e w' => e = .returned (.int .u32 (ror x 18)) ∧ w' = w := by
  go_enter Tryd.func91, Tryd.ntmps91
  go_wp2_with fail
  refine (rotl_18 x w).mono ?_
  rintro e w1 ⟨rfl, rfl⟩
  go_wp2_with fail
  go_returns
  exact ⟨rfl, rfl⟩
theorem rotl_19 (x : Int) (w : World) :
    Calls Tryd.prog 94 #[.int .u32 x, .int .i64 (-19)] w fun e w' => e = .returned (.int .u32 (ror x 19)) ∧ w' = w := by
  have h1 : bits .and .u64 (IntKind.u64.wrap (-19)) 31 = 13 := by decide +kernel
  go_enter Tryd.func94, Tryd.ntmps94
  go_wp2_with fail
  go_returns
  exact ⟨rfl, rfl⟩
theorem right_19 (x : Int) (w : World) :
    Calls Tryd.prog 91 #[.int .u32 x, .int .i64 19] w fun e w' => e = .returned (.int .u32 (ror x 19)) ∧ w' = w := by
  go_enter Tryd.func91, Tryd.ntmps91
  go_wp2_with fail
  refine (rotl_19 x w).mono ?_
  rintro e w1 ⟨rfl, rfl⟩
  go_wp2_with fail
  go_returns
  exact ⟨rfl, rfl⟩
theorem rotl_22 (x : Int) (w : World) :
    Calls Tryd.prog 94 #[.int .u32 x, .int .i64 (-22)] w fun e w' => e = .returned (.int .u32 (ror x 22)) ∧ w' = w := by
  have h1 : bits .and .u64 (IntKind.u64.wrap (-22)) 31 = 10 := by decide +kernel
  go_enter Tryd.func94, Tryd.ntmps94
  go_wp2_with fail
  go_returns
  exact ⟨rfl, rfl⟩
theorem right_22 (x : Int) (w : World) :
    Calls Tryd.prog 91 #[.int .u32 x, .int .i64 22] w fun e w' => e = .returned (.int .u32 (ror x 22)) ∧ w' = w := by
  go_enter Tryd.func91, Tryd.ntmps91
  go_wp2_with fail
  refine (rotl_22 x w).mono ?_
  rintro e w1 ⟨rfl, rfl⟩
  go_wp2_with fail
  go_returns
  exact ⟨rfl, rfl⟩
theorem rotl_25 (x : Int) (w : World) :
    Calls Tryd.prog 94 #[.int .u32 x, .int .i64 (-25)] w fun e w' => e = .returned (.int .u32 (ror x 25)) ∧ w' = w := by
  have h1 : bits .and .u64 (IntKind.u64.wrap (-25)) 31 = 7 := by decide +kernel
  go_enter Tryd.func94, Tryd.ntmps94
  go_wp2_with fail
  go_returns
  exact ⟨rfl, rfl⟩
theorem right_25 (x : Int) (w : World) :
    Calls Tryd.prog 91 #[.int .u32 x, .int .i64 25] w fun e w' => e = .returned (.int .u32 (ror x 25)) ∧ w' = w := by
  go_enter Tryd.func91, Tryd.ntmps91
  go_wp2_with fail
  refine (rotl_25 x w).mono ?_
  rintro e w1 ⟨rfl, rfl⟩
  go_wp2_with fail
  go_returns
  exact ⟨rfl, rfl⟩
/-- The turns of SHA-256. -/
def turnK (K : Int) : Bool := K == 2 || K == 6 || K == 7 || K == 11 || K == 13 || K == 17 || K == 18 || K == 19 || K == 22 || K == 25
def rorI (x K : Int) : Int := ror x K.toNat
theorem right_all (x K : Int) (hK : turnK K = true) (w : World) :
    Calls Tryd.prog 91 #[.int .u32 x, .int .i64 K] w fun e w' => e = .returned (.int .u32 (rorI x K)) ∧ w' = w := by
  simp only [turnK, Bool.or_eq_true, beq_iff_eq] at hK
  rcases hK with ((((((((rfl | rfl) | rfl) | rfl) | rfl) | rfl) | rfl) | rfl) | rfl) | rfl
  · exact right_2 x w
  · exact right_6 x w
  · exact right_7 x w
  · exact right_11 x w
  · exact right_13 x w
  · exact right_17 x w
  · exact right_18 x w
  · exact right_19 x w
  · exact right_22 x w
  · exact right_25 x w
/-- The word of four bytes, the lowest first. -/
def lowW (a b c d : Int) : Int := bits .or .u32 (bits .or .u32 (bits .or .u32 a (b * 256)) (c * 65536)) (d * 16777216)
theorem low_any (a b c d : Int) (w : World) (ha : 0 ≤ a ∧ a < 256) (hb : 0 ≤ b ∧ b < 256) (hc : 0 ≤ c ∧ c < 256) (hd : 0 ≤ d ∧ d < 256) :
    Calls Tryd.prog 84 #[.int .u8 a, .int .u8 b, .int .u8 c, .int .u8 d] w fun e w' => e = .returned (.int .u32 (lowW a b c d)) ∧ w' = w := by
  obtain ⟨a0, a1⟩ := ha
  obtain ⟨b0, b1⟩ := hb
  obtain ⟨c0, c1⟩ := hc
  obtain ⟨d0, d1⟩ := hd
  go_enter Tryd.func84, Tryd.ntmps84
  go_wp2_with fail
  go_returns
  exact ⟨rfl, rfl⟩
def pairW (h l : Int) : Int := bits .or .u64 (h * 4294967296) l
theorem pair_any (h l : Int) (w : World) (hh : 0 ≤ h ∧ h < 4294967296) (hl : 0 ≤ l ∧ l < 4294967296) :
    Calls Tryd.prog 86 #[.int .u32 h, .int .u32 l] w fun e w' => e = .returned (.int .u64 (pairW h l)) ∧ w' = w := by
  obtain ⟨a0, a1⟩ := hh
  obtain ⟨b0, b1⟩ := hl
  go_enter Tryd.func86, Tryd.ntmps86
  go_wp2_with fail
  go_returns
  exact ⟨rfl, rfl⟩
end
end Go.Proofs.YtajfjkfnmmfhmaaDoor
