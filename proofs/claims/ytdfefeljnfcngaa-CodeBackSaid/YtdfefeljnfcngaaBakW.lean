/- The statement CodeBack: the walk. -/
import Derived.Test.YtdfefeljnfcngaaBakL
import Derived.Deep.DeepCutAuto
import Derived.Deep.CutBlock
namespace Go.Proofs.Ytdfefeljnfcngaa
open Go.RowKit
set_option maxRecDepth 100000

/-- What is known of a call that is kept. -/
def EOk (w0 : World) (e : CallD × List Int) : Prop :=
  (-9223372036854775808 ≤ e.1.many ∧ e.1.many ≤ 9223372036854775807) ∧ (0 ≤ e.1.n ∧ e.1.n < 18446744073709551616) ∧ e.2.length = e.1.bl ∧ Rd w0 e.1.p e.2 ∧ (∀ z ∈ e.2, 0 ≤ z ∧ z < 256) ∧ e.1.s.size ≤ maxLen
def Good (w0 : World) (es : List (CallD × List Int)) : Prop := ∀ i (h : i < es.length), OkOne (encs (es.take i)).length es[i] ∧ EOk w0 es[i]
theorem Good.snoc {w0 : World} {es : List (CallD × List Int)} {e : CallD × List Int} (h : Good w0 es) (h1 : OkOne (encs es).length e) (h2 : EOk w0 e) : Good w0 (es ++ [e]) := by
  intro i hi
  by_cases hlt : i < es.length
  · rw [List.take_append_of_le_length (by omega), List.getElem_append_left hlt]
    exact h i hlt
  · obtain rfl : i = es.length := by simp at hi; omega
    rw [List.take_append_of_le_length (Nat.le_refl _), List.take_length, List.getElem_append_right (Nat.le_refl _)]
    simpa using ⟨h1, h2⟩
/-- What holds at each round's head: the writer has just what the kept calls say, and the row has just them. -/
structure Bak (w0 : World) (wb : Nat) (es : List (CallD × List Int)) (p : Option Addr) (c : Nat) (w : World) : Prop where
  f : FreshW w0 w wb 1048576 (encs es, 0) (blk p)
  o : w.ownsRow 0 32 5 (.slice p es.length c) es.length (rowCells es)
  n : ∀ k ∈ blk p, w0.heap.size ≤ k
  l : (encs es).length ≤ 1048576
  g : Good w0 es
theorem Bak.next {w0 w w' : World} {wb : Nat} {es : List (CallD × List Int)} {p : Option Addr} {c : Nat} {A : List Nat} (h : Bak w0 wb es p c w) (hf : FreshW w0 w' wb 1048576 (encs es, 0) A) (hA : ∀ k ∈ blk p, k ∈ A) (hk : Keeps (blk p) w w') : Bak w0 wb es p c w' :=
  ⟨hf.fewer hA, ownsRow_keeps h.o hk (fun _ h => h), h.n, h.l, h.g⟩
theorem Bak.more {w0 w1 w2 : World} {wb : Nat} {es : List (CallD × List Int)} {e : CallD × List Int} {p p2 : Option Addr} {c2 : Nat} {A : List Nat} (hf : FreshW w0 w1 wb 1048576 (encs es ++ encOne (encs es).length e, 0) A) (hA : ∀ k ∈ blk p, k ∈ A ∧ w0.heap.size ≤ k) (hg : Good w0 es)
    (ho : w2.ownsRow 0 32 5 (.slice p2 (es.length + 1) c2) (es.length + 1) (rowCells es ++ callCells e.1)) (hF : Frm (blk p) w1 w2) (hn : ∀ k ∈ blk p2, k ∈ blk p ∨ w1.heap.size ≤ k) (hok : OkOne (encs es).length e) (hek : EOk w0 e) (hl : (encs es).length + (encOne (encs es).length e).length ≤ 1048576) :
    Bak w0 wb (es ++ [e]) p2 c2 w2 := by
  have hs := hf.frm.size
  refine ⟨?_, ?_, fun k hk => ?_, ?_, hg.snoc hok hek⟩
  · rw [encs_snoc]
    exact hf.grow hA hF hn (ownsRow_low ho)
  · rw [rowCells_snoc, List.length_append, List.length_singleton]; exact ho
  · rcases hn k hk with h | h
    · exact (hA k h).2
    · omega
  · rw [encs_snoc, List.length_append]; exact hl
theorem callCells_one (d : CallD) : ∀ u ∈ callCells d, u.oneCell' = true := by
  intro u hu; simp [callCells] at hu; rcases hu with rfl | rfl | rfl | rfl | rfl <;> rfl
theorem encs_bd {w0 : World} {es : List (CallD × List Int)} (h : Good w0 es) (t : Nat) (ht : t ≤ es.length) : ∀ z ∈ encs (es.take t), 0 ≤ z ∧ z < 256 := by
  induction t with
  | zero => intro z hz; simp [encs] at hz
  | succ t ih =>
    obtain ⟨r, h1, _⟩ := encs_at es t (by omega)
    intro z hz
    rw [h1, List.mem_append] at hz
    rcases hz with hz | hz
    · exact ih (by omega) z hz
    · unfold encOne at hz
      split at hz
      · exact le_bd _ _ z hz
      · split at hz
        · exact (h t (by omega)).2.2.2.2.2.1 z hz
        · split at hz
          · rw [List.mem_append] at hz
            rcases hz with hz | hz
            · exact le_bd _ _ z hz
            · exact tx_bd _ z hz
          · simp at hz; omega
theorem FreshR.same {w0 w w' : World} {b g : Nat} {bs : List Int} {pos : Nat} {err : Int} (h : FreshR w0 w b g bs pos err) (hf : Frm [] w w') : FreshR w0 w' b g bs pos err :=
  ⟨h.1.kept hf (by simp) (by simp), h.2.1.trans hf (by simp), h.2.2⟩
theorem readS_take {α : Type} (z : α) (pos : Nat) (a : α) (n : Nat) : readS z pos 0 (a, n, 0) = (a, pos + n, 0) := by rw [readS_ok]; simp
theorem Rd.far {w0 w w' : World} {p : Option Addr} {zs : List Int} {b : Nat} (h : Rd w0 p zs) (hf : Frm [] w0 w) (hb : w0.heap.size ≤ b) (h2 : Frm [b] w w') : Rd w' p zs := by
  by_cases hne : zs = []
  · exact Or.inl hne
  · refine (h.kept hf (by simp)).kept h2 (fun k hk hk2 => ?_)
    have := h.low hne k hk
    simp at hk2
    omega
theorem str_tx (s : ByteArray) : strOfNums (tx s) = s := by
  have h : (strOfNums (tx s)).data.toList = s.data.toList := by
    rw [strOfNums_data]
    unfold tx
    rw [List.map_map]
    conv => rhs; rw [← List.map_id s.data.toList]
    apply List.map_congr_left
    intro u _
    simp [Function.comp]
  have h2 : (strOfNums (tx s)).data = s.data := Array.toList_inj.1 h
  cases hs : strOfNums (tx s)
  cases s
  simp_all
set_option maxHeartbeats 6400000 in
theorem back_any (q : Option Addr) (m c2 : Nat) (w : World) (hcl : CameL w q m c2) (hm64 : m * 64 ≤ 140737488351232) :
    Calls Try.prog 4 #[.slice q m c2] w fun e w' => e = .returned (.bool true) ∧ Frm [] w w' := by
  have HCL := hid hcl
  clear hcl
  go_enter Try.func4, Try.ntmps4
  go_wp2_with fail
  refine (awake_any _).mono ?_
  rintro e w0 ⟨rfl, hf0⟩
  have HF0 := hid hf0
  clear hf0
  go_wp2_with fail
  refine (newWriter_any 1048576 _).mono ?_
  rintro e w1 ⟨rfl, hw1, hf1, _⟩
  rw [show roomOf 1048576 = 1048576 by decide] at hw1
  have f1 : FreshW w0 w1 w0.heap.size 1048576 ([], 0) [] := FreshW.born hw1 hf1 (Nat.le_refl _)
  have HB1 : Hid (Bak w0 w0.heap.size [] none 0 w1) := ⟨f1.fewer (by simp [blk]), World.ownsRow_nil _ _ _ _, by simp [blk], by simp [encs], fun i hi => by simp at hi⟩
  obtain ⟨wb, hwb⟩ : ∃ wb, w0.heap.size = wb := ⟨_, rfl⟩
  rw [hwb] at HB1
  have HWB := hid hwb
  rw [hwb]
  clear hw1 hf1 f1 hwb
  go_upto_block 0 with fail
  go_cut [5] (fun v wx => ∃ es p c, v = .slice p es.length c ∧ Hid (Bak w0 wb es p c wx))
  case first =>
    go_wp2_with fail
    go_loopw [5, 6] (fun v i wr => ∃ (t : Nat) (es : List (CallD × List Int)) (p : Option Addr) (c : Nat), t ≤ m ∧ es.length ≤ t ∧ i = .int .i64 t ∧ v = .slice p es.length c ∧ Hid (Bak w0 wb es p c wr)) (fun _ i _ => m - (intOf i).toNat)
    case atStart => exact ⟨0, [], none, 0, Nat.zero_le _, Nat.zero_le _, rfl, rfl, HB1⟩
    case round =>
      obtain ⟨t, es, p5, c5, ht, het, rfl, rfl, hinv⟩ := hrel
      have hm2 : m ≤ 2199023255552 := by omega
      by_cases hlt : t < m
      · obtain ⟨g, o, rfl, d, hat, hok⟩ : ∃ g o, q = some ⟨g, o, none⟩ ∧ ∃ d, CallAt wr g (o + t * 5) d ∧ CallOk w0 d := by
          rcases HCL.out.2.2 with h | ⟨g, o, rfl, h⟩
          · omega
          · obtain ⟨d, h1, h2⟩ := h t hlt
            exact ⟨g, o, rfl, d, (h1.kept HF0.out).kept hinv.out.f.frm, h2.kept HF0.out⟩
        obtain ⟨k0, k1, k2, k3, k4⟩ := hat
        obtain ⟨⟨a0, a1⟩, hdn, hdm, ⟨ns, hnl, hrd, hnb, hpc, _, _⟩, hds⟩ := hok
        have HE : Hid (EOk w0 (d, ns)) := ⟨hdm, hdn, hnl, hrd, hnb, hds⟩
        have HPC := hid hpc
        obtain ⟨zs, hzs⟩ : ∃ zs, encs es = zs := ⟨_, rfl⟩
        have HZ := hid hzs
        have hlow := ownsRow_low hinv.out.o
        have HA := hid (hinv.out.f.more ((Frm.refl [] wr).alloc (.cells #[.int .i64 d.kind, .int .u64 d.n, .int .i64 d.many, .slice d.p d.bl d.bc, .string d.s] 32)) [wr.heap.size] (by simp))
        have hzl := hinv.out.l
        rw [hzs] at HA hzl
        have hcs : ∀ i v, (#[.int .i64 d.kind, .int .u64 d.n, .int .i64 d.many, .slice d.p d.bl d.bc, .string d.s] : Array Value)[i]? = some v → (wr.alloc (.cells #[.int .i64 d.kind, .int .u64 d.n, .int .i64 d.many, .slice d.p d.bl d.bc, .string d.s] 32)).cell? ⟨wr.heap.size, i, none⟩ = some v := by
          intro i v hv
          rw [cell_of_row _ _ _ _ _ _ (heap_alloc_new wr _)]; exact hv
        have HCS := hid hcs
        have HKA : Hid (Keeps (blk p5) wr (wr.alloc (.cells #[.int .i64 d.kind, .int .u64 d.n, .int .i64 d.many, .slice d.p d.bl d.bc, .string d.s] 32))) := ((Frm.refl [] wr).alloc _).keeps (fun k hk => ⟨by simp, hlow k hk⟩)
        clear hzs hcs hlow hpc hrd hnb
        go_wp2_with fail
        refine (doneWF_ok _ _ _ _ _ _ HA.out (by decide) (by omega)).mono ?_
        rintro e w2 ⟨gd, rfl, _, hf2, hk2, _, _⟩
        have HF2 := hid hf2
        have HK2 := hid hk2
        have e0 := (hk2.cell (p := ⟨wr.heap.size, 0, none⟩) (by simp)).trans (HCS.out 0 _ rfl)
        have e1 := (hk2.cell (p := ⟨wr.heap.size, 1, none⟩) (by simp)).trans (HCS.out 1 _ rfl)
        have e2 := (hk2.cell (p := ⟨wr.heap.size, 2, none⟩) (by simp)).trans (HCS.out 2 _ rfl)
        have e3 := (hk2.cell (p := ⟨wr.heap.size, 3, none⟩) (by simp)).trans (HCS.out 3 _ rfl)
        have e4 := (hk2.cell (p := ⟨wr.heap.size, 4, none⟩) (by simp)).trans (HCS.out 4 _ rfl)
        have HB2 : Hid (Bak w0 wb es p5 c5 w2) := hinv.out.next (by rw [HZ.out]; exact hf2) (fun k hk => by simp [hk]) (fun k hk => (hk2 k (by simp [hk])).trans (HKA.out k hk))
        clear hf2 hk2 k0 k1 k2 k3 k4
        by_cases hbig : 262144 < zs.length
        · have hbig' : (262144 : Int) < (zs.length : Int) := by omega
          go_wp2_with fail
          go_meet
          case rel => exact ⟨es, p5, c5, rfl, HB2⟩
        · have hbig' : ¬ (262144 : Int) < (zs.length : Int) := by omega
          by_cases hbb : 65536 < d.bl
          · have hbb' : (65536 : Int) < (d.bl : Int) := by omega
            go_wp2_with fail
            go_meet
            case rel => exact ⟨es, p5, c5, rfl, HB2⟩
          · have hbb' : ¬ (65536 : Int) < (d.bl : Int) := by omega
            by_cases hk0 : d.kind = 0
            · have hb0 : (d.kind == 0) = true := by simpa using hk0
              have hb1 : (d.kind != 1) = true := by simp [hk0]
              have hb2 : (d.kind != 2) = true := by simp [hk0]
              have hb3 : (d.kind != 3) = true := by simp [hk0]
              have HK0 := hid hk0
              by_cases h1 : d.many < 1
              · clear hk0
                go_wp2_with fail
                go_roundw
                case rel => exact ⟨t + 1, es, p5, c5, by omega, by omega, by go_num, rfl, HB2⟩
                case measure => simp [intOf]; omega
              · by_cases h8 : 8 < d.many
                · clear hk0
                  go_wp2_with fail
                  go_roundw
                  case rel => exact ⟨t + 1, es, p5, c5, by omega, by omega, by go_num, rfl, HB2⟩
                  case measure => simp [intOf]; omega
                · have HSM : (d.many == 8) = true ∧ Hid (d.n / 2 ^ (8 * d.many.toNat) = 0) ∨ (d.many == 8) = false ∧ ((d.n / 2 ^ (8 * d.many).toNat == 0) = true ∧ Hid (d.n / 2 ^ (8 * d.many.toNat) = 0) ∨ (d.n / 2 ^ (8 * d.many).toNat == 0) = false) := by
                    have ej : (8 * d.many).toNat = 8 * d.many.toNat := by omega
                    by_cases he : d.many = 8
                    · exact Or.inl ⟨by simp [he], by show _ = _; rw [he]; exact Int.ediv_eq_zero_of_lt hdn.1 hdn.2⟩
                    · refine Or.inr ⟨by simpa using he, ?_⟩
                      rw [ej]
                      by_cases hf : d.n / 2 ^ (8 * d.many.toNat) = 0
                      · exact Or.inl ⟨by simp [hf], hf⟩
                      · exact Or.inr (by simp [hf])
                  rcases HSM with ⟨hb8, HFIT⟩ | ⟨hb8, ⟨hbf, HFIT⟩ | hbf⟩
                  · clear hk0
                    have hk0 := HK0.out
                    have hst : stepW 1048576 (zs, 0) (numF d.n d.many) = (zs ++ encOne zs.length (d, ns), 0) := by
                      have h0 := num_back (d := d) (ns := ns) (len := zs.length) (r := []) hk0 (by omega) (by omega) hdn.1 HFIT.out
                      rw [h0.1]
                      have e9 : encOne zs.length (d, ns) = le d.n d.many.toNat := by unfold encOne; simp [hk0]
                      exact step_back (by rw [e9, le_length]; omega)
                    have HST := hid hst
                    have hok1 : OkOne zs.length (d, ns) := Or.inl ⟨hk0, by simp only; omega, by simp only; omega, hdn.1, HFIT.out⟩
                    have HOK1 := hid hok1
                    have hen : (encOne zs.length (d, ns)).length ≤ 786432 := by
                      have e9 : encOne zs.length (d, ns) = le d.n d.many.toNat := by unfold encOne; simp [hk0]
                      rw [e9, le_length]; omega
                    clear hst hok1 hk0
                    go_wp2_with fail
                    refine (numF_any _ _ _ _ _ _ HF2.out (by decide) (by decide) (by simp only; omega) d.n d.many hdn.1 hdn.2 hdm.1 hdm.2).mono ?_
                    rintro e w3 ⟨rfl, hf3, hk3⟩
                    rw [HST.out] at hf3
                    replace e0 := (hk3.cell (p := ⟨wr.heap.size, 0, none⟩) (by simp)).trans e0
                    replace e1 := (hk3.cell (p := ⟨wr.heap.size, 1, none⟩) (by simp)).trans e1
                    replace e2 := (hk3.cell (p := ⟨wr.heap.size, 2, none⟩) (by simp)).trans e2
                    replace e3 := (hk3.cell (p := ⟨wr.heap.size, 3, none⟩) (by simp)).trans e3
                    replace e4 := (hk3.cell (p := ⟨wr.heap.size, 4, none⟩) (by simp)).trans e4
                    have HO3 := hid (ownsRow_kept (ownsRow_keeps HB2.out.o hk3 (fun k hk => by simp [hk])) ((Frm.refl [] w3).alloc (.cells #[.int .i64 d.kind, .int .u64 d.n, .int .i64 d.many, .slice d.p d.bl d.bc, .string d.s] 32)) (by simp))
                    have HRV := hid (rv_block (heap_alloc_new w3 (.cells #[.int .i64 d.kind, .int .u64 d.n, .int .i64 d.many, .slice d.p d.bl d.bc, .string d.s] 32)))
                    have HF3 := hid (hf3.other ((Frm.refl [] w3).alloc (.cells #[.int .i64 d.kind, .int .u64 d.n, .int .i64 d.many, .slice d.p d.bl d.bc, .string d.s] 32)) (by simp))
                    clear hf3 hk3
                    go_wp2_with (at_builtin; refine wpList_appV rfl _ _ 23 rfl 32 5 64 _ Try.underlying23 infoCall rfl (by decide) p5 es.length c5 (rowCells es) rfl HO3.out (some ⟨w3.heap.size, 0, none⟩) 1 1 (callCells d) rfl rfl (by simp) HRV.out (callCells_one d) (by unfold maxLen; omega) (by omega) ?_)
                    intro p6 c6 w4 ho4 hf4 hfr4
                    have HB4 : Hid (Bak w0 wb (es ++ [(d, ns)]) p6 c6 w4) := by
                      have hg := HB2.out.g
                      refine Bak.more (by rw [HZ.out]; exact HF3.out) (fun k hk => ⟨by simp [hk], HB2.out.n k hk⟩) hg ho4.out hf4.out (fun k hk => by have := hfr4.out k hk; simpa using this) (by rw [HZ.out]; exact HOK1.out) HE.out (by rw [HZ.out]; omega)
                    clear ho4 hf4 hfr4
                    go_wp2_with fail
                    go_roundw
                    case rel => exact ⟨t + 1, es ++ [(d, ns)], p6, c6, by omega, by simp; omega, by go_num, by simp, HB4⟩
                    case measure => simp [intOf]; omega
                  · clear hk0
                    have hk0 := HK0.out
                    have hst : stepW 1048576 (zs, 0) (numF d.n d.many) = (zs ++ encOne zs.length (d, ns), 0) := by
                      have h0 := num_back (d := d) (ns := ns) (len := zs.length) (r := []) hk0 (by omega) (by omega) hdn.1 HFIT.out
                      rw [h0.1]
                      have e9 : encOne zs.length (d, ns) = le d.n d.many.toNat := by unfold encOne; simp [hk0]
                      exact step_back (by rw [e9, le_length]; omega)
                    have HST := hid hst
                    have hok1 : OkOne zs.length (d, ns) := Or.inl ⟨hk0, by simp only; omega, by simp only; omega, hdn.1, HFIT.out⟩
                    have HOK1 := hid hok1
                    have hen : (encOne zs.length (d, ns)).length ≤ 786432 := by
                      have e9 : encOne zs.length (d, ns) = le d.n d.many.toNat := by unfold encOne; simp [hk0]
                      rw [e9, le_length]; omega
                    clear hst hok1 hk0
                    go_wp2_with fail
                    refine (numF_any _ _ _ _ _ _ HF2.out (by decide) (by decide) (by simp only; omega) d.n d.many hdn.1 hdn.2 hdm.1 hdm.2).mono ?_
                    rintro e w3 ⟨rfl, hf3, hk3⟩
                    rw [HST.out] at hf3
                    replace e0 := (hk3.cell (p := ⟨wr.heap.size, 0, none⟩) (by simp)).trans e0
                    replace e1 := (hk3.cell (p := ⟨wr.heap.size, 1, none⟩) (by simp)).trans e1
                    replace e2 := (hk3.cell (p := ⟨wr.heap.size, 2, none⟩) (by simp)).trans e2
                    replace e3 := (hk3.cell (p := ⟨wr.heap.size, 3, none⟩) (by simp)).trans e3
                    replace e4 := (hk3.cell (p := ⟨wr.heap.size, 4, none⟩) (by simp)).trans e4
                    have HO3 := hid (ownsRow_kept (ownsRow_keeps HB2.out.o hk3 (fun k hk => by simp [hk])) ((Frm.refl [] w3).alloc (.cells #[.int .i64 d.kind, .int .u64 d.n, .int .i64 d.many, .slice d.p d.bl d.bc, .string d.s] 32)) (by simp))
                    have HRV := hid (rv_block (heap_alloc_new w3 (.cells #[.int .i64 d.kind, .int .u64 d.n, .int .i64 d.many, .slice d.p d.bl d.bc, .string d.s] 32)))
                    have HF3 := hid (hf3.other ((Frm.refl [] w3).alloc (.cells #[.int .i64 d.kind, .int .u64 d.n, .int .i64 d.many, .slice d.p d.bl d.bc, .string d.s] 32)) (by simp))
                    clear hf3 hk3
                    go_wp2_with (at_builtin; refine wpList_appV rfl _ _ 23 rfl 32 5 64 _ Try.underlying23 infoCall rfl (by decide) p5 es.length c5 (rowCells es) rfl HO3.out (some ⟨w3.heap.size, 0, none⟩) 1 1 (callCells d) rfl rfl (by simp) HRV.out (callCells_one d) (by unfold maxLen; omega) (by omega) ?_)
                    intro p6 c6 w4 ho4 hf4 hfr4
                    have HB4 : Hid (Bak w0 wb (es ++ [(d, ns)]) p6 c6 w4) := by
                      have hg := HB2.out.g
                      refine Bak.more (by rw [HZ.out]; exact HF3.out) (fun k hk => ⟨by simp [hk], HB2.out.n k hk⟩) hg ho4.out hf4.out (fun k hk => by have := hfr4.out k hk; simpa using this) (by rw [HZ.out]; exact HOK1.out) HE.out (by rw [HZ.out]; omega)
                    clear ho4 hf4 hfr4
                    go_wp2_with fail
                    go_roundw
                    case rel => exact ⟨t + 1, es ++ [(d, ns)], p6, c6, by omega, by simp; omega, by go_num, by simp, HB4⟩
                    case measure => simp [intOf]; omega
                  · clear hk0
                    go_wp2_with fail
                    go_roundw
                    case rel => exact ⟨t + 1, es, p5, c5, by omega, by omega, by go_num, rfl, HB2⟩
                    case measure => simp [intOf]; omega
            · have hb0 : (d.kind == 0) = false := by simpa using hk0
              clear hk0
              by_cases hk1 : d.kind = 1
              · have hb1 : (d.kind == 1) = true := by simpa using hk1
                have hb1' : (d.kind != 1) = false := by simp [hk1]
                have hct := bytesF_any _ _ _ _ _ _ HF2.out (by decide) (by decide) (by simp only; omega) d.p ns d.bc (by omega) HPC.out (HE.out.2.2.2.1.kept HF2.out.frm (by simp))
                rw [hnl] at hct
                have HCT := hid hct
                clear hct
                have hst : stepW 1048576 (zs, 0) (ns, 0) = (zs ++ encOne zs.length (d, ns), 0) := by
                  have h0 := bytes_back (d := d) (ns := ns) (len := zs.length) (r := []) hk1
                  rw [h0.1]
                  have e9 : encOne zs.length (d, ns) = ns := by unfold encOne; simp [hk1]
                  exact step_back (by rw [e9]; omega)
                have HST := hid hst
                have hok1 : OkOne zs.length (d, ns) := Or.inr (Or.inl hk1)
                have HOK1 := hid hok1
                have hen : (encOne zs.length (d, ns)).length ≤ 786432 := by
                  have e9 : encOne zs.length (d, ns) = ns := by unfold encOne; simp [hk1]
                  rw [e9]; omega
                clear hst hok1 hk1
                go_wp2_with fail
                refine (HCT.out).mono ?_
                rintro e w3 ⟨rfl, hf3, hk3⟩
                rw [HST.out] at hf3
                replace e0 := (hk3.cell (p := ⟨wr.heap.size, 0, none⟩) (by simp)).trans e0
                replace e1 := (hk3.cell (p := ⟨wr.heap.size, 1, none⟩) (by simp)).trans e1
                replace e2 := (hk3.cell (p := ⟨wr.heap.size, 2, none⟩) (by simp)).trans e2
                replace e3 := (hk3.cell (p := ⟨wr.heap.size, 3, none⟩) (by simp)).trans e3
                replace e4 := (hk3.cell (p := ⟨wr.heap.size, 4, none⟩) (by simp)).trans e4
                have HO3 := hid (ownsRow_kept (ownsRow_keeps HB2.out.o hk3 (fun k hk => by simp [hk])) ((Frm.refl [] w3).alloc (.cells #[.int .i64 d.kind, .int .u64 d.n, .int .i64 d.many, .slice d.p d.bl d.bc, .string d.s] 32)) (by simp))
                have HRV := hid (rv_block (heap_alloc_new w3 (.cells #[.int .i64 d.kind, .int .u64 d.n, .int .i64 d.many, .slice d.p d.bl d.bc, .string d.s] 32)))
                have HF3 := hid (hf3.other ((Frm.refl [] w3).alloc (.cells #[.int .i64 d.kind, .int .u64 d.n, .int .i64 d.many, .slice d.p d.bl d.bc, .string d.s] 32)) (by simp))
                clear hf3 hk3
                go_wp2_with (at_builtin; refine wpList_appV rfl _ _ 23 rfl 32 5 64 _ Try.underlying23 infoCall rfl (by decide) p5 es.length c5 (rowCells es) rfl HO3.out (some ⟨w3.heap.size, 0, none⟩) 1 1 (callCells d) rfl rfl (by simp) HRV.out (callCells_one d) (by unfold maxLen; omega) (by omega) ?_)
                intro p6 c6 w4 ho4 hf4 hfr4
                have HB4 : Hid (Bak w0 wb (es ++ [(d, ns)]) p6 c6 w4) := by
                  have hg := HB2.out.g
                  refine Bak.more (by rw [HZ.out]; exact HF3.out) (fun k hk => ⟨by simp [hk], HB2.out.n k hk⟩) hg ho4.out hf4.out (fun k hk => by have := hfr4.out k hk; simpa using this) (by rw [HZ.out]; exact HOK1.out) HE.out (by rw [HZ.out]; omega)
                clear ho4 hf4 hfr4
                go_wp2_with fail
                go_roundw
                case rel => exact ⟨t + 1, es ++ [(d, ns)], p6, c6, by omega, by simp; omega, by go_num, by simp, HB4⟩
                case measure => simp [intOf]; omega
              · have hb1 : (d.kind == 1) = false := by simpa using hk1
                have hb1' : (d.kind != 1) = true := by simpa using hk1
                clear hk1
                by_cases hk2 : d.kind = 2
                · have hb2 : (d.kind == 2) = true := by simpa using hk2
                  have hb2' : (d.kind != 2) = false := by simp [hk2]
                  have hb3' : (d.kind != 3) = true := by simp [hk2]
                  by_cases hsz : 65535 < d.s.size
                  · have hsz' : (65535 : Int) < (d.s.size : Int) := by omega
                    clear hk2
                    go_wp2_with fail
                    go_roundw
                    case rel => exact ⟨t + 1, es, p5, c5, by omega, by omega, by go_num, rfl, HB2⟩
                    case measure => simp [intOf]; omega
                  · have hsz' : ¬ (65535 : Int) < (d.s.size : Int) := by omega
                    have hst : stepW 1048576 (zs, 0) (textF d.s) = (zs ++ encOne zs.length (d, ns), 0) := by
                      have h0 := text_back (d := d) (ns := ns) (len := zs.length) (r := []) hk2 (by omega)
                      rw [h0.1]
                      have e9 : encOne zs.length (d, ns) = le d.s.size 2 ++ tx d.s := by unfold encOne; simp [hk2]
                      exact step_back (by rw [e9, List.length_append, le_length, tx_length]; omega)
                    have HST := hid hst
                    have hok1 : OkOne zs.length (d, ns) := Or.inr (Or.inr (Or.inl ⟨hk2, by simp only; omega⟩))
                    have HOK1 := hid hok1
                    have hen : (encOne zs.length (d, ns)).length ≤ 786432 := by
                      have e9 : encOne zs.length (d, ns) = le d.s.size 2 ++ tx d.s := by unfold encOne; simp [hk2]
                      rw [e9, List.length_append, le_length, tx_length]; omega
                    clear hst hok1 hk2
                    go_wp2_with fail
                    refine (textF_any _ _ _ _ _ _ HF2.out (by decide) (by decide) (by simp only; omega) d.s hds).mono ?_
                    rintro e w3 ⟨rfl, hf3, hk3⟩
                    rw [HST.out] at hf3
                    replace e0 := (hk3.cell (p := ⟨wr.heap.size, 0, none⟩) (by simp)).trans e0
                    replace e1 := (hk3.cell (p := ⟨wr.heap.size, 1, none⟩) (by simp)).trans e1
                    replace e2 := (hk3.cell (p := ⟨wr.heap.size, 2, none⟩) (by simp)).trans e2
                    replace e3 := (hk3.cell (p := ⟨wr.heap.size, 3, none⟩) (by simp)).trans e3
                    replace e4 := (hk3.cell (p := ⟨wr.heap.size, 4, none⟩) (by simp)).trans e4
                    have HO3 := hid (ownsRow_kept (ownsRow_keeps HB2.out.o hk3 (fun k hk => by simp [hk])) ((Frm.refl [] w3).alloc (.cells #[.int .i64 d.kind, .int .u64 d.n, .int .i64 d.many, .slice d.p d.bl d.bc, .string d.s] 32)) (by simp))
                    have HRV := hid (rv_block (heap_alloc_new w3 (.cells #[.int .i64 d.kind, .int .u64 d.n, .int .i64 d.many, .slice d.p d.bl d.bc, .string d.s] 32)))
                    have HF3 := hid (hf3.other ((Frm.refl [] w3).alloc (.cells #[.int .i64 d.kind, .int .u64 d.n, .int .i64 d.many, .slice d.p d.bl d.bc, .string d.s] 32)) (by simp))
                    clear hf3 hk3
                    go_wp2_with (at_builtin; refine wpList_appV rfl _ _ 23 rfl 32 5 64 _ Try.underlying23 infoCall rfl (by decide) p5 es.length c5 (rowCells es) rfl HO3.out (some ⟨w3.heap.size, 0, none⟩) 1 1 (callCells d) rfl rfl (by simp) HRV.out (callCells_one d) (by unfold maxLen; omega) (by omega) ?_)
                    intro p6 c6 w4 ho4 hf4 hfr4
                    have HB4 : Hid (Bak w0 wb (es ++ [(d, ns)]) p6 c6 w4) := by
                      have hg := HB2.out.g
                      refine Bak.more (by rw [HZ.out]; exact HF3.out) (fun k hk => ⟨by simp [hk], HB2.out.n k hk⟩) hg ho4.out hf4.out (fun k hk => by have := hfr4.out k hk; simpa using this) (by rw [HZ.out]; exact HOK1.out) HE.out (by rw [HZ.out]; omega)
                    clear ho4 hf4 hfr4
                    go_wp2_with fail
                    go_roundw
                    case rel => exact ⟨t + 1, es ++ [(d, ns)], p6, c6, by omega, by simp; omega, by go_num, by simp, HB4⟩
                    case measure => simp [intOf]; omega
                · have hb2 : (d.kind == 2) = false := by simpa using hk2
                  have hb2' : (d.kind != 2) = true := by simpa using hk2
                  clear hk2
                  by_cases hk3 : d.kind = 3
                  · have hb3 : (d.kind == 3) = true := by simpa using hk3
                    have hb3' : (d.kind != 3) = false := by simp [hk3]
                    by_cases hp1 : d.many < (zs.length : Int)
                    · clear hk3
                      go_wp2_with fail
                      go_roundw
                      case rel => exact ⟨t + 1, es, p5, c5, by omega, by omega, by go_num, rfl, HB2⟩
                      case measure => simp [intOf]; omega
                    · by_cases hp2 : 524288 < d.many
                      · clear hk3
                        go_wp2_with fail
                        go_roundw
                        case rel => exact ⟨t + 1, es, p5, c5, by omega, by omega, by go_num, rfl, HB2⟩
                        case measure => simp [intOf]; omega
                      · have HKX := hid hk3
                        have hst : stepW 1048576 (zs, 0) (padF 1048576 ((zs, 0) : List Int × Int).1.length d.many) = (zs ++ encOne zs.length (d, ns), 0) := by
                          have h0 := pad_back (d := d) (ns := ns) (len := zs.length) (r := []) (R := 1048576) hk3 (by omega) (by omega)
                          simp only
                          rw [h0.1]
                          have e9 : encOne zs.length (d, ns) = List.replicate (d.many - zs.length).toNat 0 := by unfold encOne; simp [hk3]
                          exact step_back (by rw [e9, List.length_replicate]; omega)
                        have HST := hid hst
                        have hok1 : OkOne zs.length (d, ns) := Or.inr (Or.inr (Or.inr ⟨hk3, by simp only; omega⟩))
                        have HOK1 := hid hok1
                        have hen : (encOne zs.length (d, ns)).length ≤ 786432 := by
                          have e9 : encOne zs.length (d, ns) = List.replicate (d.many - zs.length).toNat 0 := by unfold encOne; simp [hk3]
                          rw [e9, List.length_replicate]; omega
                        clear hst hok1 hk3
                        go_wp2_with fail
                        refine (padF_any _ _ _ _ _ _ HF2.out (by decide) (by decide) (by simp only; omega) d.many).mono ?_
                        rintro e w3 ⟨rfl, hf3, hk3⟩
                        rw [HST.out] at hf3
                        replace e0 := (hk3.cell (p := ⟨wr.heap.size, 0, none⟩) (by simp)).trans e0
                        replace e1 := (hk3.cell (p := ⟨wr.heap.size, 1, none⟩) (by simp)).trans e1
                        replace e2 := (hk3.cell (p := ⟨wr.heap.size, 2, none⟩) (by simp)).trans e2
                        replace e3 := (hk3.cell (p := ⟨wr.heap.size, 3, none⟩) (by simp)).trans e3
                        replace e4 := (hk3.cell (p := ⟨wr.heap.size, 4, none⟩) (by simp)).trans e4
                        have HO3 := hid (ownsRow_kept (ownsRow_keeps HB2.out.o hk3 (fun k hk => by simp [hk])) ((Frm.refl [] w3).alloc (.cells #[.int .i64 d.kind, .int .u64 d.n, .int .i64 d.many, .slice d.p d.bl d.bc, .string d.s] 32)) (by simp))
                        have HRV := hid (rv_block (heap_alloc_new w3 (.cells #[.int .i64 d.kind, .int .u64 d.n, .int .i64 d.many, .slice d.p d.bl d.bc, .string d.s] 32)))
                        have HF3 := hid (hf3.other ((Frm.refl [] w3).alloc (.cells #[.int .i64 d.kind, .int .u64 d.n, .int .i64 d.many, .slice d.p d.bl d.bc, .string d.s] 32)) (by simp))
                        clear hf3 hk3
                        go_wp2_with (at_builtin; refine wpList_appV rfl _ _ 23 rfl 32 5 64 _ Try.underlying23 infoCall rfl (by decide) p5 es.length c5 (rowCells es) rfl HO3.out (some ⟨w3.heap.size, 0, none⟩) 1 1 (callCells d) rfl rfl (by simp) HRV.out (callCells_one d) (by unfold maxLen; omega) (by omega) ?_)
                        intro p6 c6 w4 ho4 hf4 hfr4
                        have HB4 : Hid (Bak w0 wb (es ++ [(d, ns)]) p6 c6 w4) := by
                          have hg := HB2.out.g
                          refine Bak.more (by rw [HZ.out]; exact HF3.out) (fun k hk => ⟨by simp [hk], HB2.out.n k hk⟩) hg ho4.out hf4.out (fun k hk => by have := hfr4.out k hk; simpa using this) (by rw [HZ.out]; exact HOK1.out) HE.out (by rw [HZ.out]; omega)
                        clear ho4 hf4 hfr4
                        go_wp2_with fail
                        go_roundw
                        case rel => exact ⟨t + 1, es ++ [(d, ns)], p6, c6, by omega, by simp; omega, by go_num, by simp, HB4⟩
                        case measure => simp [intOf]; omega
                  · have hb3' : (d.kind != 3) = true := by simpa using hk3
                    clear hk3
                    go_wp2_with fail
                    go_roundw
                    case rel => exact ⟨t + 1, es, p5, c5, by omega, by omega, by go_num, rfl, HB2⟩
                    case measure => simp [intOf]; omega
      · obtain rfl : t = m := by omega
        go_wp2_with fail
        go_meet
        case rel => exact ⟨es, p5, c5, rfl, hinv⟩
  case rest =>
    obtain ⟨es, p5, c5, rfl, HB⟩ := hcut
    have hbl := HB.out.l
    have hbd := encs_bd HB.out.g es.length (Nat.le_refl _)
    rw [List.take_length] at hbd
    have HBD := hid hbd
    have HAT := hid (encs_at es)
    obtain ⟨bs, hbs⟩ : ∃ bs, encs es = bs := ⟨_, rfl⟩
    have HBS := hid hbs
    have hes : es.length ≤ 9223372036854775807 := by have := HB.out.o.1; have := HB.out.o; exact es_small HB.out.o
    rw [hbs] at hbl HBD HAT
    clear hbd hbs
    go_wp2_with fail
    have hdone := doneWF_ok w0 wc wb 1048576 bs (blk p5) (by have := HB.out.f; rw [HBS.out] at this; exact this) (by decide) (by omega)
    refine hdone.mono ?_
    rintro e w2 ⟨g, rfl, hrd, hf2, hk2, hg, hgl⟩
    have HF2 := hid hf2.frm
    have HO2 := hid (ownsRow_keeps HB.out.o hk2 (fun k hk => hk))
    have HRD2 := hid hrd
    clear hf2 hk2 hrd
    go_wp2_with fail
    refine (newReader_any (some ⟨g, 0, none⟩) bs.length bs w2 HRD2.out (by omega)).mono ?_
    rintro e w3 ⟨rb, rg, rfl, hr, hf, hrb, hrg⟩
    have hlo := ownsRow_low HO2.out
    have HNB : Hid (∀ k ∈ blk p5, k ∉ [rb]) := by intro k hk h; have := hlo k hk; simp at h; omega
    have HO3 := hid (ownsRow_kept HO2.out hf (by simp))
    have R3 : Hid (FreshR w0 w3 rb rg bs 0 0) := ⟨hr, HF2.out.trans hf (by simp), Nat.le_trans HF2.out.size hrb, Nat.le_trans HF2.out.size hrg⟩
    clear hr hf hrb hrg hlo
    go_wp2_with fail
    go_loopw [14] (fun i wr => ∃ (t : Nat), t ≤ es.length ∧ i = .int .i64 t ∧ Hid (FreshR w0 wr rb rg bs (encs (es.take t)).length 0) ∧ Hid (wr.ownsRow 0 32 5 (.slice p5 es.length c5) es.length (rowCells es))) (fun i _ => es.length - (intOf i).toNat)
    case atStart => exact ⟨0, Nat.zero_le _, rfl, R3, HO3⟩
    case round =>
      obtain ⟨t, ht, rfl, hR, hO⟩ := hrel
      by_cases hlt : t < es.length
      · obtain ⟨gk, rfl⟩ : ∃ gk, p5 = some ⟨gk, 0, none⟩ := own_some hO.out (by omega)
        have hcs : ∀ j, j < 5 → wr.cell? ⟨gk, t * 5 + j, none⟩ = (callCells es[t].1)[j]? := by
          intro j hj
          rw [World.ownsRow.cellAt hO.out (t * 5 + j) (by omega), rowCells_at es t hlt j hj]
        obtain ⟨hok, hek⟩ := HB.out.g t hlt
        obtain ⟨rr, hnx, hdr⟩ := HAT.out t hlt
        obtain ⟨pos, hpos⟩ : ∃ pos, (encs (es.take t)).length = pos := ⟨_, rfl⟩
        rw [hpos] at hok hdr hnx
        have hR' := hR.out
        rw [hpos] at hR'
        have hnl := congrArg List.length hnx
        rw [List.length_append, hpos] at hnl
        generalize es[t] = en at hcs hok hek hdr hnl
        obtain ⟨d, ns⟩ := en
        obtain ⟨⟨m0, m1⟩, ⟨n0, n1⟩, hns, hrdn, hnb, hss⟩ := hek
        simp only at m0 m1 n0 n1 hns hrdn hnb hss
        unfold OkOne at hok
        dsimp only at hok
        have HNL := hid hnl
        have HDR := hid hdr
        have HRN := hid hrdn
        have q0 := hcs 0 (by omega)
        have q1 := hcs 1 (by omega)
        have q2 := hcs 2 (by omega)
        have q3 := hcs 3 (by omega)
        have q4 := hcs 4 (by omega)
        simp only [callCells, List.getElem?_cons_zero, List.getElem?_cons_succ, Nat.add_zero] at q0 q1 q2 q3 q4
        have HRW := hid (hR'.same ((Frm.refl [] wr).alloc (.cells #[.int .i64 d.kind, .int .u64 d.n, .int .i64 d.many, .slice d.p d.bl d.bc, .string d.s] 32)))
        have HRD := hid (HRW.out.same (Frm.refl [] _).drew)
        have HOW := hid (ownsRow_kept hO.out ((Frm.refl [] wr).alloc (.cells #[.int .i64 d.kind, .int .u64 d.n, .int .i64 d.many, .slice d.p d.bl d.bc, .string d.s] 32)) (by simp))
        have hcb : ∀ i v, (#[.int .i64 d.kind, .int .u64 d.n, .int .i64 d.many, .slice d.p d.bl d.bc, .string d.s] : Array Value)[i]? = some v → (wr.alloc (.cells #[.int .i64 d.kind, .int .u64 d.n, .int .i64 d.many, .slice d.p d.bl d.bc, .string d.s] 32)).cell? ⟨wr.heap.size, i, none⟩ = some v := by
          intro i v hv
          rw [cell_of_row _ _ _ _ _ _ (heap_alloc_new wr _)]; exact hv
        have c1 := hcb 1 _ rfl
        have c2 := hcb 2 _ rfl
        have c3 := hcb 3 _ rfl
        have c4 := hcb 4 _ rfl
        have hrl : wr.heap.size ∉ [rb] := by have := hR'.1.cells.1; simp; omega
        have hsl : wr.heap.size < (wr.alloc (.cells #[.int .i64 d.kind, .int .u64 d.n, .int .i64 d.many, .slice d.p d.bl d.bc, .string d.s] 32)).heap.size := by simp
        clear hcs hcb hnx hnl hdr hrdn hR' hR hO hpos
        by_cases hk0 : d.kind = 0
        · have hb0 : (d.kind == 0) = true := by simpa using hk0
          rcases hok with ⟨-, o1, o2, o3, o4⟩ | h | ⟨h, -⟩ | ⟨h, -⟩
          · have hb := num_back (d := d) (ns := ns) (len := pos) (r := rr) hk0 o1 o2 o3 o4
            have hN := numR_any rb rg pos bs HBD.out 0 d.many _ HRD.out.1 m0 m1
            rw [HDR.out, hb.2, readS_take] at hN
            have HN := hid hN
            clear hb hN hk0 o4
            go_wp2_with fail
            go_region_held3 (fun w' => w'.cell? ⟨wr.heap.size, 1, none⟩ = some (.int .u64 d.n) ∧ w'.cell? ⟨wr.heap.size, 2, none⟩ = some (.int .i64 d.many)) (first | go_keep | (exact ⟨c1, c2⟩) | (exact ⟨(hf.cell (p := ⟨wr.heap.size, 1, none⟩) hsl hrl).trans c1, (hf.cell (p := ⟨wr.heap.size, 2, none⟩) hsl hrl).trans c2⟩)) (((with_reducible refine HN.out.mono ?_); rintro e w5 ⟨rfl, hr, hf⟩))
            have HRX := hid (HRD.out.next hr hf)
            have HOX := hid (ownsRow_kept (ownsRow_kept HOW.out (Frm.refl [] _).drew (by simp)) hf HNB.out)
            clear hr hf
            go_wp2_with fail
            go_roundw
            case rel => exact ⟨t + 1, by omega, by go_num, by show FreshR _ _ _ _ _ _ _; rw [HNL.out]; exact HRX.out, HOX⟩
            case measure => simp [intOf]; omega
          · omega
          · omega
          · omega
        · have hb0 : (d.kind == 0) = false := by simpa using hk0
          by_cases hk1 : d.kind = 1
          · have hb1 : (d.kind == 1) = true := by simpa using hk1
            have hb := bytes_back (d := d) (ns := ns) (len := pos) (r := rr) hk1
            have hnsl : d.bl ≤ 1048576 := by
              have h1 := congrArg List.length HDR.out
              have h2 := congrArg (fun x : List Int × Int => x.1.length) hb.1
              rw [List.length_append, List.length_drop] at h1
              simp only at h2
              omega
            have hN := bytesR_any rb rg pos bs 0 ns.length _ HRD.out.1 (by omega) (by omega)
            rw [HDR.out, hb.2, readS_take, hns] at hN
            have HN := hid hN
            have hcv0 := conv_any (P := Try.prog) (w := (wr.alloc (.cells #[.int .i64 d.kind, .int .u64 d.n, .int .i64 d.many, .slice d.p d.bl d.bc, .string d.s] 32)).drew) 22 5 9 Try.underlying22 Try.underlying5 Try.underlying9 (HRN.out.kept HRD.out.2.1 (by simp)) d.bc hns
            have HC1 := hid (fun (w5 : World) (hf : Frm [rb] (wr.alloc (.cells #[.int .i64 d.kind, .int .u64 d.n, .int .i64 d.many, .slice d.p d.bl d.bc, .string d.s] 32)).drew w5) => conv_any (P := Try.prog) (w := w5) 22 5 9 Try.underlying22 Try.underlying5 Try.underlying9 (HRN.out.far HRD.out.2.1 HRD.out.2.2.1 hf) d.bc hns)
            have HC2 := hid (fun (w5 : World) (p' : Option Addr) (c' : Nat) (ho : Own w5 5 (.slice p' d.bl c') ns) => conv_any (P := Try.prog) (w := w5) 22 5 9 Try.underlying22 Try.underlying5 Try.underlying9 ho.rd c' hns)
            generalize strOfNums ns = S at hcv0 HC1 HC2
            clear hb hN hk1 hk0 hok
            go_wp2_with fail
            go_region_with (((with_reducible refine HN.out.mono ?_); rintro e w5 ⟨p', n', c', rfl, rfl, ho, _, hr, hf⟩; have hz2 := HC2.out w5 p' c' ho; have hz1 := HC1.out w5 hf; have hc5 := (hf.cell (p := ⟨wr.heap.size, 3, none⟩) hsl hrl).trans c3))
            all_goals
              have HRX := hid (HRD.out.next hr hf)
              have HOX := hid (ownsRow_kept (ownsRow_kept HOW.out (Frm.refl [] _).drew (by simp)) hf HNB.out)
              clear hr hf hz2 hz1 hc5 ho hcv0
              go_wp2_with fail
              go_roundw
              case rel => exact ⟨t + 1, by omega, by go_num, by show FreshR _ _ _ _ _ _ _; rw [HNL.out]; exact HRX.out, HOX⟩
              case measure => simp [intOf]; omega
          · have hb1 : (d.kind == 1) = false := by simpa using hk1
            by_cases hk2 : d.kind = 2
            · have hb2 : (d.kind == 2) = true := by simpa using hk2
              rcases hok with ⟨h, -⟩ | h | ⟨-, o1⟩ | ⟨h, -⟩
              · omega
              · omega
              · have hb := text_back (d := d) (ns := ns) (len := pos) (r := rr) hk2 o1
                have hN := textR_any rb rg pos bs HBD.out 0 65535 _ HRD.out.1 (by omega) (by omega)
                rw [HDR.out, hb.2, readS_take] at hN
                simp only [str_tx] at hN
                have HN := hid hN
                clear hb hN hk2 hk1 hk0
                go_wp2_with fail
                go_region_held3 (fun w' => w'.cell? ⟨wr.heap.size, 4, none⟩ = some (.string d.s)) (first | go_keep | (exact c4) | (exact (hf.cell (p := ⟨wr.heap.size, 4, none⟩) hsl hrl).trans c4)) (((with_reducible refine HN.out.mono ?_); rintro e w5 ⟨rfl, hr, hf⟩))
                have HRX := hid (HRD.out.next hr hf)
                have HOX := hid (ownsRow_kept (ownsRow_kept HOW.out (Frm.refl [] _).drew (by simp)) hf HNB.out)
                clear hr hf
                go_wp2_with fail
                go_roundw
                case rel => exact ⟨t + 1, by omega, by go_num, by show FreshR _ _ _ _ _ _ _; rw [HNL.out]; exact HRX.out, HOX⟩
                case measure => simp [intOf]; omega
              · omega
            · have hb2 : (d.kind == 2) = false := by simpa using hk2
              rcases hok with ⟨h, -⟩ | h | ⟨h, -⟩ | ⟨o0, o1⟩
              · omega
              · omega
              · omega
              · have hb := pad_back (d := d) (ns := ns) (len := pos) (r := rr) (R := d.many) o0 o1 (Int.le_refl _)
                have hN := padR_any rb rg pos bs 0 d.many _ HRW.out.1 m0 m1
                rw [HDR.out, hb.2, readS_take] at hN
                have HN := hid hN
                clear hb hN hk2 hk1 hk0 o0
                go_wp2_with fail
                refine HN.out.mono ?_
                rintro e w5 ⟨rfl, hr, hf⟩
                have HRX := hid (HRW.out.next hr hf)
                have HOX := hid (ownsRow_kept HOW.out hf HNB.out)
                clear hr hf
                go_wp2_with fail
                go_roundw
                case rel => exact ⟨t + 1, by omega, by go_num, by show FreshR _ _ _ _ _ _ _; rw [HNL.out]; exact HRX.out, HOX⟩
                case measure => simp [intOf]; omega
      · obtain rfl : t = es.length := by omega
        have hR' := hR.out
        rw [List.take_length, HBS.out] at hR'
        have HRR := hid hR'
        clear hR' hlt
        go_wp2_with fail
        refine (doneR_any _ _ _ _ _ _ HRR.out.1).mono ?_
        rintro e w5 ⟨rfl, x1, rfl⟩
        rw [show doneS bs.length bs.length 0 = 0 by simp [doneS]]
        have HR5 := hid (HRR.out.drewN x1)
        go_wp2_with fail
        refine (left_any _ _ _ _ _ _ HR5.out.1).mono ?_
        rintro e w6 ⟨rfl, x2, rfl⟩
        rw [show ((bs.length - bs.length : Nat) : Int) = 0 by simp]
        go_wp2_with fail
        go_returns
        exact ⟨rfl, HF0.out.trans (HRR.out.2.1.drewN (x1 + x2)) (by simp)⟩
end Go.Proofs.Ytdfefeljnfcngaa
