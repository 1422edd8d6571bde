/- Records: what a body's reader takes up. -/
import Derived.Test.YtajfjkfnmmfhmaaGreatDoorQwak
import Derived.Test.YtajfjkfnmmfhmaaGreatDoorQwac
import Derived.Test.YtajfjkfnmmfhmaaGreatDoorQwag
namespace Go.Proofs.YtajfjkfnmmfhmaaGreatDoor
section
open Go.RowKit Go.Lib
set_option maxRecDepth 100000
/-- Where a reader stands, and its error. -/
abbrev Rst := Nat × Int
def nuS (bs : List Int) (s : Rst) (k : Int) : Int × Nat × Int := readS 0 s.1 s.2 (numT (bs.drop s.1) k)
def txS (bs : List Int) (s : Rst) (k : Int) : List Int × Nat × Int := readS [] s.1 s.2 (textT (bs.drop s.1) k)
def byS (bs : List Int) (s : Rst) (k : Int) : List Int × Nat × Int := readS [] s.1 s.2 (bytesT (bs.drop s.1) k)
theorem nuS_bd {bs : List Int} (hb : ∀ z ∈ bs, 0 ≤ z ∧ z < 256) (s : Rst) (k : Int) (hk : k ≤ 7) : 0 ≤ (nuS bs s k).1 ∧ (nuS bs s k).1 < 72057594037927936 := by
  have h0 : (0 : Int) ≤ 0 ∧ (0 : Int) < 72057594037927936 := by omega
  unfold nuS readS
  split
  · exact h0
  · have hn : 0 ≤ (numT (bs.drop s.1) k).1 ∧ (numT (bs.drop s.1) k).1 < 72057594037927936 := by
      unfold numT
      split
      · exact h0
      · split
        · exact h0
        · rename_i h1 h2
          have hl : ((bs.drop s.1).take k.toNat).length ≤ 7 := by rw [List.length_take]; omega
          have h3 := leV_bd ((bs.drop s.1).take k.toNat) (fun z hz => hb z (List.mem_of_mem_drop (List.mem_of_mem_take hz)))
          have h4 : (2 : Int) ^ (8 * ((bs.drop s.1).take k.toNat).length) ≤ 72057594037927936 := by
            generalize ((bs.drop s.1).take k.toNat).length = x at hl
            have hx : x = 0 ∨ x = 1 ∨ x = 2 ∨ x = 3 ∨ x = 4 ∨ x = 5 ∨ x = 6 ∨ x = 7 := by omega
            rcases hx with rfl | rfl | rfl | rfl | rfl | rfl | rfl | rfl <;> decide
          exact ⟨h3.1, by show leV _ < _; omega⟩
    split
    · exact hn
    · exact hn
/-- A reader that is new since a world. -/
def FrR (w0 w : World) (b g : Nat) (bs : List Int) (s : Rst) : Prop := FreshR w0 w b g bs s.1 s.2
theorem FrR.k0 {w0 w w' : World} {b g : Nat} {bs : List Int} {s : Rst} (h : FrR w0 w b g bs s) (hf : Frm [] w w') : FrR w0 w' b g bs s := by
  obtain ⟨h1, h2, h3, h4⟩ := h
  exact ⟨h1.kept hf (by simp) (by simp), h2.trans hf (by simp), h3, h4⟩
theorem frR_set {w0 w w' : World} {b g bq : Nat} {bs : List Int} {s : Rst} (h : FrR w0 w b g bs s) (hf : Frm [bq] w w') (h1 : ¬ bq = b) (h2 : bq ≠ g) (h3 : w0.heap.size ≤ bq) : FrR w0 w' b g bs s := by
  obtain ⟨a1, a2, a3, a4⟩ := h
  exact ⟨a1.kept hf (by simpa using fun h => h1 h.symm) (by simpa using fun h => h2 h.symm), a2.trans hf (fun i hi hl => by rw [List.mem_singleton] at hi; omega), a3, a4⟩
section
variable (w0 w : World) (b g : Nat) (bs : List Int) (hb : ∀ z ∈ bs, 0 ≤ z ∧ z < 256) (s : Rst) (h : FrR w0 w b g bs s)
include hb h
theorem nR_any (k : Int) (hk0 : 0 ≤ k) (hk : k ≤ 8) : Calls Tryz.prog 42 #[.pointer (some ⟨b, 0, none⟩), .int .i64 k] w fun e w' => e = .returned (.int .u64 (nuS bs s k).1) ∧ FrR w0 w' b g bs (nuS bs s k).2 ∧ Frm [b] w w' :=
  (numR_any b g s.1 bs hb s.2 k w h.1 (by omega) (by omega)).mono (fun _ _ hh => ⟨hh.1, FreshR.next h hh.2.1 hh.2.2, hh.2.2⟩)
theorem tR_any (k : Int) (hk0 : 0 ≤ k) (hk : k ≤ 65535) : Calls Tryz.prog 93 #[.pointer (some ⟨b, 0, none⟩), .int .i64 k] w fun e w' => e = .returned (.string (strOfNums (txS bs s k).1)) ∧ FrR w0 w' b g bs (txS bs s k).2 ∧ Frm [b] w w' :=
  (textR_any b g s.1 bs hb s.2 k w h.1 (by omega) (by omega)).mono (fun _ _ hh => ⟨hh.1, FreshR.next h hh.2.1 hh.2.2, hh.2.2⟩)
omit hb in
theorem bR_any (k : Int) (hk0 : 0 ≤ k) (hk : k < 72057594037927936) : Calls Tryz.prog 100 #[.pointer (some ⟨b, 0, none⟩), .int .i64 k] w fun e w' => ∃ p n c, e = .returned (.slice p n c) ∧ n = (byS bs s k).1.length ∧ Own w' 5 (.slice p n c) (byS bs s k).1 ∧ (∀ k ∈ blk p, w.heap.size ≤ k) ∧ FrR w0 w' b g bs (byS bs s k).2 ∧ Frm [b] w w' := by
  refine (bytesR_any b g s.1 bs s.2 k w h.1 (by omega) (by omega)).mono ?_
  rintro e w' ⟨p, n, c, he, h1, h2, h3, h4, h5⟩
  exact ⟨p, n, c, he, h1, h2, h3, FreshR.next h h4 h5, h5⟩
omit hb in
theorem lR_any : Calls Tryz.prog 89 #[.pointer (some ⟨b, 0, none⟩)] w fun e w' => e = .returned (.int .i64 ((bs.length - s.1 : Nat) : Int)) ∧ ∃ n, w' = w.drewN n := left_any b g s.1 bs s.2 w h.1
end
/-- So many numbers, each so much less than it stands there. -/
def kpS (bs : List Int) (more k : Int) (s : Rst) : Nat → List Int × Rst
  | 0 => ([], s)
  | t + 1 => ((kpS bs more k s t).1 ++ [(nuS bs (kpS bs more k s t).2 k).1 - more], (nuS bs (kpS bs more k s t).2 k).2)
theorem kpS_len (bs : List Int) (more k : Int) (s : Rst) : ∀ t, (kpS bs more k s t).1.length = t
  | 0 => rfl
  | t + 1 => by rw [kpS, List.length_append, kpS_len bs more k s t]; rfl
/-- How many numbers are taken up. -/
def kpN (bs : List Int) (k : Nat) (s : Rst) : Nat := min (nuS bs s 2).1.toNat ((bs.length - (nuS bs s 2).2.1) / k + 1)
def tkK (bs : List Int) (more : Int) (k : Nat) (s : Rst) : List Int × Rst := kpS bs more k (nuS bs s 2).2 (kpN bs k s)
theorem infoInR : (Tryz.prog.info? 3).map (fun i => (i.zero, i.size, i.bytes)) = some (some (.int .i64 0), 1, 8) := by kernel_rfl
set_option maxHeartbeats 6400000 in
theorem takeKeep4_any (w0 w : World) (b g : Nat) (bs : List Int) (hb : ∀ z ∈ bs, 0 ≤ z ∧ z < 256) (hl : bs.length ≤ 2048) (s : Rst) (h : FrR w0 w b g bs s) :
    Calls Tryz.prog 99 #[.pointer (some ⟨b, 0, none⟩), .int .i64 0, .int .i64 4] w fun e w' => ∃ p n c, e = .returned (.slice p n c) ∧ (tkK bs 0 4 s).1.length = n ∧ w'.ownsRow 0 3 1 (.slice p n c) n ((tkK bs 0 4 s).1.map (Value.int .i64)) ∧ (∀ k ∈ blk p, w.heap.size ≤ k) ∧ FrR w0 w' b g bs (tkK bs 0 4 s).2 ∧ Frm [b] w w' := by
  obtain ⟨PO, hPO⟩ : ∃ PO : Ending → World → Prop, (fun e w' => ∃ p n c, e = .returned (.slice p n c) ∧ (tkK bs 0 4 s).1.length = n ∧ w'.ownsRow 0 3 1 (.slice p n c) n ((tkK bs 0 4 s).1.map (Value.int .i64)) ∧ (∀ k ∈ blk p, w.heap.size ≤ k) ∧ FrR w0 w' b g bs (tkK bs 0 4 s).2 ∧ Frm [b] w w') = PO := ⟨_, rfl⟩
  rw [hPO]
  have HP : Hid (∀ p n c w', (tkK bs 0 4 s).1.length = n → w'.ownsRow 0 3 1 (.slice p n c) n ((tkK bs 0 4 s).1.map (Value.int .i64)) → (∀ k ∈ blk p, w.heap.size ≤ k) → FrR w0 w' b g bs (tkK bs 0 4 s).2 → Frm [b] w w' → PO (.returned (.slice p n c)) w') := hid (fun p n c w' h1 h2 h3 h4 h5 => by rw [← hPO]; exact ⟨p, n, c, rfl, h1, h2, h3, h4, h5⟩)
  have HN1 := hid (nR_any w0 w b g bs hb s h 2 (by omega) (by omega))
  have HBS := hid hb
  have HW0 : Hid (w0.heap.size ≤ w.heap.size) := hid h.2.1.size
  have hbd := nuS_bd hb s 2 (by omega)
  obtain ⟨K, hK⟩ : ∃ K, kpN bs 4 s = K := ⟨_, rfl⟩
  have HTK : Hid (tkK bs 0 4 s = kpS bs 0 4 (nuS bs s 2).2 K) := hid (by rw [← hK]; rfl)
  unfold kpN at hK
  obtain ⟨v0, hv0⟩ : ∃ v, nuS bs s 2 = v := ⟨_, rfl⟩
  rw [hv0] at HN1 hbd HTK hK
  obtain ⟨TK, hTK⟩ : ∃ z, tkK bs 0 4 s = z := ⟨_, rfl⟩
  rw [hTK] at HP HTK
  have hKb : K ≤ 2049 := by omega
  have hwr : IntKind.i64.wrap v0.1 = v0.1 := by rw [IntKind.wrap_i64]; omega
  obtain ⟨lf, hlf⟩ : ∃ z : Nat, bs.length - v0.2.1 = z := ⟨_, rfl⟩
  have HLF := hid (fun W (hW : FrR w0 W b g bs v0.2) => lR_any w0 W b g bs v0.2 hW)
  simp only [hlf] at HLF
  rw [hlf] at hK
  have hlfb : lf ≤ 2048 := by omega
  have hmin : ∀ (ts : Array TypeId) (ty : TypeId) (W : World), Sem.run Tryz.prog (Builtin.min_ ts ty #[.int .i64 v0.1, .int .i64 ((lf : Int) / 4 + 1)]) W = .ok (.int .i64 (K : Int)) W := by
    intro ts ty W
    have hm := run_min_int2 (P := Tryz.prog) (w := W) ts ty .i64 .i64 v0.1 ((lf : Int) / 4 + 1)
    have hKe : (if ((lf : Int) / 4 + 1 < v0.1) then ((lf : Int) / 4 + 1) else v0.1) = (K : Int) := by
      split <;> omega
    rwa [hKe] at hm
  clear h hb hv0 hTK hK hlf hPO hl
  go_enter Tryz.func99, Tryz.ntmps99
  go_wp2_with fail
  refine HN1.out.mono ?_
  rintro e w1 ⟨rfl, hr1, hf1⟩
  have HR1 := hid hr1
  have HF1 := hid hf1
  clear hr1 hf1 HN1
  go_wp2_with fail
  refine (HLF.out w1 HR1.out).mono ?_
  rintro e _ ⟨rfl, n2, rfl⟩
  have HR2 := hid (HR1.out.k0 ((Frm.refl [] w1).drewN n2))
  have HF2 := hid (HF1.out.trans ((Frm.refl [] w1).drewN n2) (by simp))
  obtain ⟨w2, hw2⟩ : ∃ z, w1.drewN n2 = z := ⟨_, rfl⟩
  rw [hw2] at HR2 HF2 ⊢
  clear hw2 HR1 HF1 HLF
  go_wp2_with fail
  clear hmin hwr hbd
  go_loopw [7, 17] (fun l i wr => ∃ (t : Nat) (p : Option Addr) (c : Nat), t ≤ K ∧ l = .slice p t c ∧ i = .int .i64 (t : Int) ∧ Hid (wr.ownsRow 0 3 1 (.slice p t c) t ((kpS bs 0 4 v0.2 t).1.map (Value.int .i64))) ∧ Hid (∀ k ∈ blk p, w.heap.size ≤ k ∧ k ≠ b ∧ k ≠ g) ∧ Hid (FrR w0 wr b g bs (kpS bs 0 4 v0.2 t).2) ∧ Hid (Frm [b] w wr)) (fun _ i _ => K - (intOf i).toNat)
  case atStart => exact ⟨0, none, 0, by omega, rfl, rfl, hid (World.ownsRow_nil _ _ _ _), hid (by simp [blk]), HR2, HF2⟩
  case round =>
    obtain ⟨t, p, c, ht, rfl, rfl, ho, hnw, hr, hf⟩ := hrel
    have HO := hid ho.out
    have HNW := hid hnw.out
    have HR := hid hr.out
    have HF := hid hf.out
    clear ho hnw hr hf HR2 HF2
    by_cases hlt : t < K
    case neg =>
      obtain rfl : t = K := by omega
      have HX : Hid (PO (.returned (.slice p t c)) wr) := hid (HP.out p t c wr (by rw [HTK.out, kpS_len]) (by rw [HTK.out]; exact HO.out) (fun k hk => (HNW.out k hk).1) (by rw [HTK.out]; exact HR.out) HF.out)
      clear hlt
      go_wp2_with fail
      first | go_returns | skip
      exact HX.out
    have t1 : (t : Int) < (K : Int) := by omega
    have HSU : Hid (kpS bs 0 4 v0.2 (t + 1) = ((kpS bs 0 4 v0.2 t).1 ++ [(nuS bs (kpS bs 0 4 v0.2 t).2 4).1 - 0], (nuS bs (kpS bs 0 4 v0.2 t).2 4).2)) := hid rfl
    have hll := kpS_len bs 0 4 v0.2 t
    obtain ⟨LL, hLL⟩ : ∃ z, kpS bs 0 4 v0.2 t = z := ⟨_, rfl⟩
    rw [hLL] at HO HR HSU hll
    have HC := hid (nR_any w0 wr b g bs HBS.out LL.2 HR.out 4 (by omega) (by omega))
    have hbd := nuS_bd HBS.out LL.2 4 (by omega)
    obtain ⟨v, hv⟩ : ∃ z, nuS bs LL.2 4 = z := ⟨_, rfl⟩
    rw [hv] at HC hbd HSU
    have HLL := hid hll
    have hwr : IntKind.i64.wrap v.1 = v.1 := by rw [IntKind.wrap_i64]; omega
    have hw64 : wrap64 (v.1 - 0) = v.1 - 0 := by unfold wrap64; omega
    clear hLL hv hll
    go_wp2_with fail
    refine HC.out.mono ?_
    rintro e x7 ⟨rfl, hr, hf⟩
    have HR7 := hid hr
    have HF7 := hid hf
    have HA := hid ((Frm.refl [] x7).alloc (.cells #[.int .i64 (v.1)] 3))
    have HRV := hid (rv_block (heap_alloc_new x7 (.cells #[.int .i64 (v.1)] 3)))
    have HOW := hid (ownsRow_kept (ownsRow_kept HO.out hf (fun k hk hm => by rw [List.mem_singleton] at hm; exact (HNW.out k hk).2.1 hm)) HA.out (by simp))
    have ht46 : t ≤ 2049 := by omega
    clear hr hf HC
    go_wp2_with (at_builtin; refine wpList_appV rfl _ _ 23 rfl 3 1 8 _ Tryz.underlying23 infoInR rfl (by decide) p t c (LL.1.map (Value.int .i64)) rfl HOW.out (some ⟨x7.heap.size, 0, none⟩) 1 1 [.int .i64 (v.1)] rfl rfl (by simp) HRV.out (by intro u hu; simp at hu; subst hu; rfl) (by unfold maxLen; omega) (by omega) ?_)
    intro p8 c8 w8 ho8 hf8 hb8
    have hfa : Frm (blk p) x7 w8 := (HA.out.mono (by simp)).trans hf8.out (fun i hi _ => hi)
    have hr7 := HR7.out
    have hg := hr7.1.cells
    have HNX : Hid (w8.ownsRow 0 3 1 (.slice p8 (t + 1) c8) (t + 1) ((kpS bs 0 4 v0.2 (t + 1)).1.map (Value.int .i64)) ∧ (∀ k ∈ blk p8, w.heap.size ≤ k ∧ k ≠ b ∧ k ≠ g) ∧ FrR w0 w8 b g bs (kpS bs 0 4 v0.2 (t + 1)).2 ∧ Frm [b] w w8) := hid (by
      have h1 := HF.out.size
      have h2 := HF7.out.size
      rw [HSU.out]
      refine ⟨?_, fun k hk => ?_, ⟨hr7.1.kept hfa (fun hm => (HNW.out b hm).2.1 rfl) (fun hm => (HNW.out g hm).2.2 rfl), hr7.2.1.trans hfa (fun i hi hl => by have h3 := (HNW.out i hi).1; have h4 := HW0.out; omega), hr7.2.2⟩, (HF.out.trans HF7.out (fun i hi _ => hi)).trans hfa (fun i hi hl => by have := (HNW.out i hi).1; omega)⟩
      · have h := ho8.out
        simpa using h
      · rcases hb8.out k hk with h | h
        · exact HNW.out k h
        · have e1 : (x7.alloc (.cells #[.int .i64 (v.1)] 3)).heap.size = x7.heap.size + 1 := by simp
          exact ⟨by omega, by have := hg.1; omega, by have := hg.2.1; omega⟩)
    clear ho8 hf8 hb8 hfa hr7 hg HRV HOW HA HR7 HF7 hbd hwr hw64 ht46
    go_wp2_with fail
    go_roundw
    case rel => exact ⟨t + 1, p8, c8, by omega, rfl, by go_num, hid HNX.out.1, hid HNX.out.2.1, hid HNX.out.2.2.1, hid HNX.out.2.2.2⟩
    case measure => first | (simp [intOf]; done) | (simp [intOf]; omega)
set_option maxHeartbeats 6400000 in
theorem takeKeep2_any (w0 w : World) (b g : Nat) (bs : List Int) (hb : ∀ z ∈ bs, 0 ≤ z ∧ z < 256) (hl : bs.length ≤ 2048) (s : Rst) (h : FrR w0 w b g bs s) :
    Calls Tryz.prog 99 #[.pointer (some ⟨b, 0, none⟩), .int .i64 1, .int .i64 2] w fun e w' => ∃ p n c, e = .returned (.slice p n c) ∧ (tkK bs 1 2 s).1.length = n ∧ w'.ownsRow 0 3 1 (.slice p n c) n ((tkK bs 1 2 s).1.map (Value.int .i64)) ∧ (∀ k ∈ blk p, w.heap.size ≤ k) ∧ FrR w0 w' b g bs (tkK bs 1 2 s).2 ∧ Frm [b] w w' := by
  obtain ⟨PO, hPO⟩ : ∃ PO : Ending → World → Prop, (fun e w' => ∃ p n c, e = .returned (.slice p n c) ∧ (tkK bs 1 2 s).1.length = n ∧ w'.ownsRow 0 3 1 (.slice p n c) n ((tkK bs 1 2 s).1.map (Value.int .i64)) ∧ (∀ k ∈ blk p, w.heap.size ≤ k) ∧ FrR w0 w' b g bs (tkK bs 1 2 s).2 ∧ Frm [b] w w') = PO := ⟨_, rfl⟩
  rw [hPO]
  have HP : Hid (∀ p n c w', (tkK bs 1 2 s).1.length = n → w'.ownsRow 0 3 1 (.slice p n c) n ((tkK bs 1 2 s).1.map (Value.int .i64)) → (∀ k ∈ blk p, w.heap.size ≤ k) → FrR w0 w' b g bs (tkK bs 1 2 s).2 → Frm [b] w w' → PO (.returned (.slice p n c)) w') := hid (fun p n c w' h1 h2 h3 h4 h5 => by rw [← hPO]; exact ⟨p, n, c, rfl, h1, h2, h3, h4, h5⟩)
  have HN1 := hid (nR_any w0 w b g bs hb s h 2 (by omega) (by omega))
  have HBS := hid hb
  have HW0 : Hid (w0.heap.size ≤ w.heap.size) := hid h.2.1.size
  have hbd := nuS_bd hb s 2 (by omega)
  obtain ⟨K, hK⟩ : ∃ K, kpN bs 2 s = K := ⟨_, rfl⟩
  have HTK : Hid (tkK bs 1 2 s = kpS bs 1 2 (nuS bs s 2).2 K) := hid (by rw [← hK]; rfl)
  unfold kpN at hK
  obtain ⟨v0, hv0⟩ : ∃ v, nuS bs s 2 = v := ⟨_, rfl⟩
  rw [hv0] at HN1 hbd HTK hK
  obtain ⟨TK, hTK⟩ : ∃ z, tkK bs 1 2 s = z := ⟨_, rfl⟩
  rw [hTK] at HP HTK
  have hKb : K ≤ 2049 := by omega
  have hwr : IntKind.i64.wrap v0.1 = v0.1 := by rw [IntKind.wrap_i64]; omega
  obtain ⟨lf, hlf⟩ : ∃ z : Nat, bs.length - v0.2.1 = z := ⟨_, rfl⟩
  have HLF := hid (fun W (hW : FrR w0 W b g bs v0.2) => lR_any w0 W b g bs v0.2 hW)
  simp only [hlf] at HLF
  rw [hlf] at hK
  have hlfb : lf ≤ 2048 := by omega
  have hmin : ∀ (ts : Array TypeId) (ty : TypeId) (W : World), Sem.run Tryz.prog (Builtin.min_ ts ty #[.int .i64 v0.1, .int .i64 ((lf : Int) / 2 + 1)]) W = .ok (.int .i64 (K : Int)) W := by
    intro ts ty W
    have hm := run_min_int2 (P := Tryz.prog) (w := W) ts ty .i64 .i64 v0.1 ((lf : Int) / 2 + 1)
    have hKe : (if ((lf : Int) / 2 + 1 < v0.1) then ((lf : Int) / 2 + 1) else v0.1) = (K : Int) := by
      split <;> omega
    rwa [hKe] at hm
  clear h hb hv0 hTK hK hlf hPO hl
  go_enter Tryz.func99, Tryz.ntmps99
  go_wp2_with fail
  refine HN1.out.mono ?_
  rintro e w1 ⟨rfl, hr1, hf1⟩
  have HR1 := hid hr1
  have HF1 := hid hf1
  clear hr1 hf1 HN1
  go_wp2_with fail
  refine (HLF.out w1 HR1.out).mono ?_
  rintro e _ ⟨rfl, n2, rfl⟩
  have HR2 := hid (HR1.out.k0 ((Frm.refl [] w1).drewN n2))
  have HF2 := hid (HF1.out.trans ((Frm.refl [] w1).drewN n2) (by simp))
  obtain ⟨w2, hw2⟩ : ∃ z, w1.drewN n2 = z := ⟨_, rfl⟩
  rw [hw2] at HR2 HF2 ⊢
  clear hw2 HR1 HF1 HLF
  go_wp2_with fail
  clear hmin hwr hbd
  go_loopw [7, 17] (fun l i wr => ∃ (t : Nat) (p : Option Addr) (c : Nat), t ≤ K ∧ l = .slice p t c ∧ i = .int .i64 (t : Int) ∧ Hid (wr.ownsRow 0 3 1 (.slice p t c) t ((kpS bs 1 2 v0.2 t).1.map (Value.int .i64))) ∧ Hid (∀ k ∈ blk p, w.heap.size ≤ k ∧ k ≠ b ∧ k ≠ g) ∧ Hid (FrR w0 wr b g bs (kpS bs 1 2 v0.2 t).2) ∧ Hid (Frm [b] w wr)) (fun _ i _ => K - (intOf i).toNat)
  case atStart => exact ⟨0, none, 0, by omega, rfl, rfl, hid (World.ownsRow_nil _ _ _ _), hid (by simp [blk]), HR2, HF2⟩
  case round =>
    obtain ⟨t, p, c, ht, rfl, rfl, ho, hnw, hr, hf⟩ := hrel
    have HO := hid ho.out
    have HNW := hid hnw.out
    have HR := hid hr.out
    have HF := hid hf.out
    clear ho hnw hr hf HR2 HF2
    by_cases hlt : t < K
    case neg =>
      obtain rfl : t = K := by omega
      have HX : Hid (PO (.returned (.slice p t c)) wr) := hid (HP.out p t c wr (by rw [HTK.out, kpS_len]) (by rw [HTK.out]; exact HO.out) (fun k hk => (HNW.out k hk).1) (by rw [HTK.out]; exact HR.out) HF.out)
      clear hlt
      go_wp2_with fail
      first | go_returns | skip
      exact HX.out
    have t1 : (t : Int) < (K : Int) := by omega
    have HSU : Hid (kpS bs 1 2 v0.2 (t + 1) = ((kpS bs 1 2 v0.2 t).1 ++ [(nuS bs (kpS bs 1 2 v0.2 t).2 2).1 - 1], (nuS bs (kpS bs 1 2 v0.2 t).2 2).2)) := hid rfl
    have hll := kpS_len bs 1 2 v0.2 t
    obtain ⟨LL, hLL⟩ : ∃ z, kpS bs 1 2 v0.2 t = z := ⟨_, rfl⟩
    rw [hLL] at HO HR HSU hll
    have HC := hid (nR_any w0 wr b g bs HBS.out LL.2 HR.out 2 (by omega) (by omega))
    have hbd := nuS_bd HBS.out LL.2 2 (by omega)
    obtain ⟨v, hv⟩ : ∃ z, nuS bs LL.2 2 = z := ⟨_, rfl⟩
    rw [hv] at HC hbd HSU
    have HLL := hid hll
    have hwr : IntKind.i64.wrap v.1 = v.1 := by rw [IntKind.wrap_i64]; omega
    have hw64 : wrap64 (v.1 - 1) = v.1 - 1 := by unfold wrap64; omega
    clear hLL hv hll
    go_wp2_with fail
    refine HC.out.mono ?_
    rintro e x7 ⟨rfl, hr, hf⟩
    have HR7 := hid hr
    have HF7 := hid hf
    have HA := hid ((Frm.refl [] x7).alloc (.cells #[.int .i64 (v.1 - 1)] 3))
    have HRV := hid (rv_block (heap_alloc_new x7 (.cells #[.int .i64 (v.1 - 1)] 3)))
    have HOW := hid (ownsRow_kept (ownsRow_kept HO.out hf (fun k hk hm => by rw [List.mem_singleton] at hm; exact (HNW.out k hk).2.1 hm)) HA.out (by simp))
    have ht46 : t ≤ 2049 := by omega
    clear hr hf HC
    go_wp2_with (at_builtin; refine wpList_appV rfl _ _ 23 rfl 3 1 8 _ Tryz.underlying23 infoInR rfl (by decide) p t c (LL.1.map (Value.int .i64)) rfl HOW.out (some ⟨x7.heap.size, 0, none⟩) 1 1 [.int .i64 (v.1 - 1)] rfl rfl (by simp) HRV.out (by intro u hu; simp at hu; subst hu; rfl) (by unfold maxLen; omega) (by omega) ?_)
    intro p8 c8 w8 ho8 hf8 hb8
    have hfa : Frm (blk p) x7 w8 := (HA.out.mono (by simp)).trans hf8.out (fun i hi _ => hi)
    have hr7 := HR7.out
    have hg := hr7.1.cells
    have HNX : Hid (w8.ownsRow 0 3 1 (.slice p8 (t + 1) c8) (t + 1) ((kpS bs 1 2 v0.2 (t + 1)).1.map (Value.int .i64)) ∧ (∀ k ∈ blk p8, w.heap.size ≤ k ∧ k ≠ b ∧ k ≠ g) ∧ FrR w0 w8 b g bs (kpS bs 1 2 v0.2 (t + 1)).2 ∧ Frm [b] w w8) := hid (by
      have h1 := HF.out.size
      have h2 := HF7.out.size
      rw [HSU.out]
      refine ⟨?_, fun k hk => ?_, ⟨hr7.1.kept hfa (fun hm => (HNW.out b hm).2.1 rfl) (fun hm => (HNW.out g hm).2.2 rfl), hr7.2.1.trans hfa (fun i hi hl => by have h3 := (HNW.out i hi).1; have h4 := HW0.out; omega), hr7.2.2⟩, (HF.out.trans HF7.out (fun i hi _ => hi)).trans hfa (fun i hi hl => by have := (HNW.out i hi).1; omega)⟩
      · have h := ho8.out
        simpa using h
      · rcases hb8.out k hk with h | h
        · exact HNW.out k h
        · have e1 : (x7.alloc (.cells #[.int .i64 (v.1 - 1)] 3)).heap.size = x7.heap.size + 1 := by simp
          exact ⟨by omega, by have := hg.1; omega, by have := hg.2.1; omega⟩)
    clear ho8 hf8 hb8 hfa hr7 hg HRV HOW HA HR7 HF7 hbd hwr hw64 ht46
    go_wp2_with fail
    go_roundw
    case rel => exact ⟨t + 1, p8, c8, by omega, rfl, by go_num, hid HNX.out.1, hid HNX.out.2.1, hid HNX.out.2.2.1, hid HNX.out.2.2.2⟩
    case measure => first | (simp [intOf]; done) | (simp [intOf]; omega)
end
end Go.Proofs.YtajfjkfnmmfhmaaGreatDoor
