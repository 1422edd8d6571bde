/- The statement VolumeApart: the walk. -/
import Derived.Test.YtdfefeljnfcngaaVolS
namespace Go.Proofs.Ytdfefeljnfcngaa
open Go.RowKit
set_option maxRecDepth 100000

/-- What a writing call makes of the bytes, and what it answers. -/
def wrB (bs : List Int) (i : Int) (zs : List Int) : List Int := if hasB bs.length i zs.length then splice bs i.toNat zs else bs
def errB (n : Nat) (i : Int) (k : Int) : Int := if hasB n i k then 0 else 186
theorem wrB_length (bs : List Int) (i : Int) (zs : List Int) : (wrB bs i zs).length = bs.length := by
  unfold wrB
  split
  · rename_i h
    obtain ⟨a, k, rfl, hk, hle⟩ := hasB_yes h
    exact splice_length (by simp; omega)
  · rfl
theorem volWrite_any (b g : Nat) (bs : List Int) (i : Int) (p : Option Addr) (zs : List Int) (l c : Nat) (hl : zs.length = l) (w : World) (hv : IsVol w b g bs) (hrd : Rd w p zs) (hg : zs ≠ [] → g ∉ blk p) (hl2 : l ≤ 9223372036854775807) :
    Calls Try.prog 51 #[.pointer (some ⟨b, 0, none⟩), .int .i64 i, .slice p l c] w fun e w' => e = .returned (.int .i64 (errB bs.length i l)) ∧ IsVol w' b g (wrB bs i zs) ∧ Frm [g] w w' := by
  subst hl
  by_cases h : hasB bs.length i zs.length = true
  · obtain ⟨a, k, rfl, hk, hle⟩ := hasB_yes h
    have h1 : errB bs.length (a : Int) zs.length = 0 := by unfold errB; rw [if_pos h]
    have h2 : wrB bs (a : Int) zs = splice bs a zs := by unfold wrB; rw [if_pos h]; simp
    rw [h1, h2]
    exact volWrite_ok b g bs a p zs c w hv hrd hg (by omega)
  · have h1 : errB bs.length i zs.length = 186 := by unfold errB; rw [if_neg h]
    have h2 : wrB bs i zs = bs := by unfold wrB; rw [if_neg h]
    rw [h1, h2]
    refine (volWrite_no b g bs i p zs.length c w hv hl2 (by simpa using h)).mono ?_
    rintro e w' ⟨he, rfl⟩
    exact ⟨he, hv, Frm.refl _ _⟩
theorem volDiscard_any (b g : Nat) (bs : List Int) (i many : Int) (w : World) (hv : IsVol w b g bs) :
    Calls Try.prog 52 #[.pointer (some ⟨b, 0, none⟩), .int .i64 i, .int .i64 many] w fun e w' => e = .returned (.int .i64 (errB bs.length i many)) ∧ (∃ cs, cs = (if hasB bs.length i many then splice bs i.toNat (List.replicate many.toNat 0) else bs) ∧ cs.length = bs.length ∧ IsVol w' b g cs) ∧ Frm [g] w w' := by
  by_cases h : hasB bs.length i many = true
  · obtain ⟨a, k, rfl, rfl, hle⟩ := hasB_yes h
    have h1 : errB bs.length (a : Int) (k : Int) = 0 := by unfold errB; rw [if_pos h]
    rw [h1, if_pos h]
    refine (volDiscard_ok b g bs a k w hv hle).mono ?_
    rintro e w' ⟨he, h2, h3⟩
    simp only [Int.toNat_natCast]
    exact ⟨he, ⟨_, rfl, splice_length (by simpa using hle), h2⟩, h3⟩
  · have h1 : errB bs.length i many = 186 := by unfold errB; rw [if_neg h]
    rw [h1, if_neg h]
    refine (volDiscard_no b g bs i many w hv (by simpa using h)).mono ?_
    rintro e w' ⟨he, rfl⟩
    exact ⟨he, ⟨_, rfl, rfl, hv⟩, Frm.refl _ _⟩
theorem splice_getElem {bs zs : List Int} {i j : Nat} (h : i + zs.length ≤ bs.length) : (splice bs i zs)[j]? = if i ≤ j ∧ j < i + zs.length then zs[j - i]? else bs[j]? := by
  unfold splice
  have hl : (bs.take i).length = i := by simp; omega
  by_cases h1 : j < i
  · rw [if_neg (by omega), List.append_assoc, List.getElem?_append_left (by omega), List.getElem?_take, if_pos h1]
  · by_cases h2 : j < i + zs.length
    · rw [if_pos ⟨by omega, h2⟩, List.append_assoc, List.getElem?_append_right (by omega), hl, List.getElem?_append_left (by omega)]
    · rw [if_neg (by omega), List.getElem?_append_right (by rw [List.length_append, hl]; omega), List.length_append, hl, List.getElem?_drop]
      congr 1
      omega
theorem splice_comm {bs za zb : List Int} {x y : Nat} (h1 : x + za.length ≤ bs.length) (h2 : y + zb.length ≤ bs.length) (h3 : y + zb.length ≤ x ∨ x + za.length ≤ y) : splice (splice bs x za) y zb = splice (splice bs y zb) x za := by
  apply List.ext_getElem?
  intro j
  rw [splice_getElem (by rw [splice_length h1]; exact h2), splice_getElem h1, splice_getElem (by rw [splice_length h2]; exact h1), splice_getElem h2]
  by_cases a1 : x ≤ j ∧ j < x + za.length
  · by_cases a2 : y ≤ j ∧ j < y + zb.length
    · omega
    · rw [if_neg a2, if_pos a1, if_pos a1]
  · rw [if_neg a1, if_neg a1]
theorem wrB_comm {bs za zb : List Int} {x y : Int} (h3 : y + zb.length ≤ x ∨ x + za.length ≤ y) : wrB (wrB bs x za) y zb = wrB (wrB bs y zb) x za := by
  have e1 : ∀ z i c, (wrB c i z).length = c.length := fun z i c => wrB_length c i z
  by_cases ha : hasB bs.length x za.length = true
  · by_cases hb : hasB bs.length y zb.length = true
    · obtain ⟨a, k, rfl, hk, hle⟩ := hasB_yes ha
      obtain ⟨b, k2, rfl, hk2, hle2⟩ := hasB_yes hb
      have f1 : wrB bs (a : Int) za = splice bs a za := by unfold wrB; rw [if_pos ha]; simp
      have f2 : wrB bs (b : Int) zb = splice bs b zb := by unfold wrB; rw [if_pos hb]; simp
      have g1 : (splice bs a za).length = bs.length := splice_length (by omega)
      have g2 : (splice bs b zb).length = bs.length := splice_length (by omega)
      rw [f1, f2]
      unfold wrB
      rw [g1, g2, if_pos ha, if_pos hb]
      simp only [Int.toNat_natCast]
      exact splice_comm (by omega) (by omega) (by omega)
    · have f2 : ∀ c : List Int, c.length = bs.length → wrB c y zb = c := by intro c hc; unfold wrB; rw [hc, if_neg hb]
      rw [f2 _ (e1 _ _ _), f2 bs rfl]
  · have f1 : ∀ c : List Int, c.length = bs.length → wrB c x za = c := by intro c hc; unfold wrB; rw [hc, if_neg ha]
    rw [f1 bs rfl, f1 _ (e1 _ _ _)]
/-- Two volumes of the same bytes, apart. -/
structure VolII (w0 : World) (vb vg ub ug n : Nat) (cu cv : List Int) (w : World) : Prop where
  v : IsVol w vb vg cu
  u : IsVol w ub ug cv
  l : cu.length = n
  l2 : cv.length = n
  a1 : vb ≠ ug
  a2 : ub ≠ vg
  a3 : vg ≠ ug
  n1 : w0.heap.size ≤ vg
  n2 : w0.heap.size ≤ ug
  f : Frm [] w0 w
theorem VolII.other {w0 w w' : World} {vb vg ub ug n : Nat} {cu cv : List Int} (h : VolII w0 vb vg ub ug n cu cv w) (hf : Frm [] w w') : VolII w0 vb vg ub ug n cu cv w' :=
  ⟨h.v.kept hf (by simp) (by simp), h.u.kept hf (by simp) (by simp), h.l, h.l2, h.a1, h.a2, h.a3, h.n1, h.n2, h.f.trans hf (by simp)⟩
theorem VolII.left {w0 w w' : World} {vb vg ub ug n : Nat} {cu cv cs : List Int} (h : VolII w0 vb vg ub ug n cu cv w) (hv : IsVol w' vb vg cs) (hl : cs.length = cu.length) (hf : Frm [vg] w w') : VolII w0 vb vg ub ug n cs cv w' :=
  ⟨hv, h.u.kept hf (by simpa using h.a2) (by simpa using Ne.symm h.a3), hl.trans h.l, h.l2, h.a1, h.a2, h.a3, h.n1, h.n2, h.f.trans hf (fun i hi hlt => by simp at hi; have := h.n1; omega)⟩
theorem VolII.right {w0 w w' : World} {vb vg ub ug n : Nat} {cu cv cs : List Int} (h : VolII w0 vb vg ub ug n cu cv w) (hv : IsVol w' ub ug cs) (hl : cs.length = cv.length) (hf : Frm [ug] w w') : VolII w0 vb vg ub ug n cu cs w' :=
  ⟨h.v.kept hf (by simpa using h.a1) (by simpa using h.a3), hv, h.l, hl.trans h.l2, h.a1, h.a2, h.a3, h.n1, h.n2, h.f.trans hf (fun i hi hlt => by simp at hi; have := h.n2; omega)⟩
theorem es_fit {w : World} {E : TypeId} {sz n : Nat} {p : Option Addr} {c : Nat} {xs : List Value} (h : w.ownsRow 0 E sz (.slice p n c) n xs) : n ≤ 9223372036854775807 := by
  rcases h.2 with ⟨_, h0⟩ | ⟨g, c, cur, he, _, _, hc, hm, _⟩
  · omega
  · unfold maxLen at hm; omega
set_option maxHeartbeats 6400000 in
theorem volApart_any (ch : Int) (hc : -9223372036854775808 ≤ ch) (hc2 : ch ≤ 9223372036854775807) (q : Option Addr) (m c2 : Nat) (x y : OpD) (w : World) (hcl : CameO w q m c2) (hx : OpOk w x) (hy : OpOk w y) :
    Calls Try.prog 10 #[.int .i64 ch, .slice q m c2, .agg #[.int .i64 x.kind, .int .i64 x.at_, .int .i64 x.many, .slice x.p x.bl x.bc], .agg #[.int .i64 y.kind, .int .i64 y.at_, .int .i64 y.many, .slice y.p y.bl y.bc]] w fun e w' => e = .returned (.bool true) ∧ Frm [] w w' := by
  have HCL := hid hcl
  have hm : m ≤ 9223372036854775807 := by have := hcl.1; have := hcl.2.1; omega
  clear hcl
  obtain ⟨j, hj, hj2⟩ : ∃ j : Nat, pickV ch 64 = j ∧ j < 64 := ⟨(pickV ch 64).toNat, by have := pickV_bd (c := ch) (n := 64) (by decide); omega, by have := pickV_bd (c := ch) (n := 64) (by decide); omega⟩
  have HJ := hid hj
  obtain ⟨n, hn⟩ : ∃ n, n = 256 * (1 + j) := ⟨_, rfl⟩
  have hsz : (256 : Int) * (1 + (j : Int)) = (n : Int) := by omega
  have hn1 : 256 ≤ n := by omega
  have hn2 : n ≤ 16384 := by omega
  have hn3 : n % 256 = 0 := by omega
  obtain ⟨⟨x0, x1⟩, ⟨x2, x3⟩, ⟨x4, x5⟩, zx, hxl, hxr, _, _, hxb, hxc⟩ := hx
  obtain ⟨⟨y0, y1⟩, ⟨y2, y3⟩, ⟨y4, y5⟩, zy, hyl, hyr, _, _, hyb, hyc⟩ := hy
  have HXL := hid hxl
  have HYL := hid hyl
  have HXR := hid hxr
  have HYR := hid hyr
  have HFB : Hid (Frm [] w ((w.alloc (.cells #[.int .i64 x.kind, .int .i64 x.at_, .int .i64 x.many, .slice x.p x.bl x.bc] 80)).alloc (.cells #[.int .i64 y.kind, .int .i64 y.at_, .int .i64 y.many, .slice y.p y.bl y.bc] 80))) := ((Frm.refl _ _).alloc _).alloc _
  have hbx : ((w.alloc (.cells #[.int .i64 x.kind, .int .i64 x.at_, .int .i64 x.many, .slice x.p x.bl x.bc] 80)).alloc (.cells #[.int .i64 y.kind, .int .i64 y.at_, .int .i64 y.many, .slice y.p y.bl y.bc] 80)).heap[w.heap.size]? = some (Obj.cells #[.int .i64 x.kind, .int .i64 x.at_, .int .i64 x.many, .slice x.p x.bl x.bc] 80 (0, 0)) := by
    rw [Below.heap_alloc _ _ _ (by simp), heap_alloc_new]
  have hby : ((w.alloc (.cells #[.int .i64 x.kind, .int .i64 x.at_, .int .i64 x.many, .slice x.p x.bl x.bc] 80)).alloc (.cells #[.int .i64 y.kind, .int .i64 y.at_, .int .i64 y.many, .slice y.p y.bl y.bc] 80)).heap[w.heap.size + 1]? = some (Obj.cells #[.int .i64 y.kind, .int .i64 y.at_, .int .i64 y.many, .slice y.p y.bl y.bc] 80 (0, 0)) := heap_alloc_to _ _ (by simp)
  have HBX := hid hbx
  have HBY := hid hby
  clear hj hn hxl hyl hxr hyr hbx hby
  go_enter Try.func10, Try.ntmps10
  go_wp2_with fail
  refine (awakeV_any _).mono ?_
  rintro e w0 ⟨rfl, hf0⟩
  have HF0 : Hid (Frm [] w w0) := HFB.out.trans hf0 (by simp)
  have HBX0 := hid (hf0.heap HBX.out (by simp))
  have HBY0 := hid (hf0.heap HBY.out (by simp))
  clear hf0 HBX HBY
  go_wp2_with fail
  refine (pick_any ch 64 hc hc2 (by omega) (by omega) _).mono ?_
  rintro e w1 ⟨rfl, rfl⟩
  rw [HJ.out]
  go_wp2_with fail
  refine (volNew_ok n hn1 hn2 hn3 _).mono ?_
  rintro e w2 ⟨vb, vg, rfl, hv2, hf2, hvb, hvg⟩
  have HV2 := hid hv2
  have HF2 := hid hf2
  clear hv2 hf2
  go_wp2_with fail
  refine (volNew_ok n hn1 hn2 hn3 _).mono ?_
  rintro e w3 ⟨ub, ug, rfl, hu3, hf3, hub, hug⟩
  have HI : Hid (VolII w0 vb vg ub ug n (List.replicate n 0) (List.replicate n 0) w3) := by
    have h1 := HV2.out.cells
    have h2 := HF2.out.size
    exact ⟨HV2.out.kept hf3 (by simp) (by simp), hu3, by simp, by simp, by omega, by omega, by omega, hvg, by omega, HF2.out.trans hf3 (by simp)⟩
  clear hu3 hf3
  go_wp2_with fail
  go_loopw [15] (fun i wr => ∃ (t : Nat) (cur : List Int), t ≤ m ∧ i = .int .i64 t ∧ Hid (VolII w0 vb vg ub ug n cur cur wr)) (fun i _ => m - (intOf i).toNat)
  case atStart => exact ⟨0, List.replicate n 0, Nat.zero_le _, rfl, HI⟩
  case round =>
    obtain ⟨t, cur, ht, rfl, hinv⟩ := hrel
    clear HI
    by_cases hlt : t < m
    · obtain ⟨g, o, rfl, d, hat, hok⟩ : ∃ g o, q = some ⟨g, o, none⟩ ∧ ∃ d, OpAt wr g (o + t * 4) d ∧ OpOk w0 d := by
        rcases HCL.out.2.2 with h | ⟨g, o, rfl, h⟩
        · omega
        · obtain ⟨d, h1, h2⟩ := h t hlt
          exact ⟨g, o, rfl, d, (h1.kept HF0.out).kept hinv.out.f, h2.kept HF0.out⟩
      obtain ⟨k0, k1, k2, k3⟩ := hat
      obtain ⟨⟨a0, a1⟩, ⟨a2, a3⟩, ⟨a4, a5⟩, ns, hnl, hrd, _, hpc, hbc, hbm⟩ := hok
      have HRD := hid hrd
      have HNL := hid hnl
      have HFA : Hid (Frm [] wr (wr.alloc (.cells #[.int .i64 d.kind, .int .i64 d.at_, .int .i64 d.many, .slice d.p d.bl d.bc] 80))) := (Frm.refl _ _).alloc _
      have HI3 := hid (hinv.out.other HFA.out)
      have hcs : ∀ i v, (#[.int .i64 d.kind, .int .i64 d.at_, .int .i64 d.many, .slice d.p d.bl d.bc] : Array Value)[i]? = some v → (wr.alloc (.cells #[.int .i64 d.kind, .int .i64 d.at_, .int .i64 d.many, .slice d.p d.bl d.bc] 80)).cell? ⟨wr.heap.size, i, none⟩ = some v := by
        intro i v hv
        rw [cell_of_row _ _ _ _ _ _ (heap_alloc_new wr _)]; exact hv
      have hvc := hinv.out.v.cells
      have hx1 : wr.heap.size ∉ [vg] := by simp; omega
      have hxl : wr.heap.size < (wr.alloc (.cells #[.int .i64 d.kind, .int .i64 d.at_, .int .i64 d.many, .slice d.p d.bl d.bc] 80)).heap.size := by simp
      have e1 := hcs 1 _ rfl
      have e2 := hcs 2 _ rfl
      have e3 := hcs 3 _ rfl
      have e0 := hcs 0 _ rfl
      have HGP : Hid (ns ≠ [] → vg ∉ blk d.p) := fun h hk => by have := HRD.out.lows h vg hk; have := hinv.out.n1; omega
      have HGP2 : Hid (ns ≠ [] → ug ∉ blk d.p) := fun h hk => by have := HRD.out.lows h ug hk; have := hinv.out.n2; omega
      have hkb := pickV_bd (c := d.kind) (n := 2) (by decide)
      clear hrd hpc hcs hvc hnl
      go_wp2_with fail
      refine (pick_any d.kind 2 a0 a1 (by omega) (by omega) _).mono ?_
      rintro e w4 ⟨rfl, rfl⟩
      by_cases hK : pickV d.kind 2 = 0
      · rw [hK]
        clear hK hkb
        have HW1 := hid (volWrite_any vb vg cur d.at_ d.p ns d.bl d.bc HNL.out _ HI3.out.v (HRD.out.kept HI3.out.f (by simp)) HGP.out (by omega))
        go_wp2_with fail
        refine HW1.out.mono ?_
        rintro e w5 ⟨rfl, hv5, hf5⟩
        have HI5 := hid (HI3.out.left hv5 (wrB_length _ _ _) hf5)
        have g1 := (hf5.cell (p := ⟨wr.heap.size, 1, none⟩) hxl hx1).trans e1
        have g3 := (hf5.cell (p := ⟨wr.heap.size, 3, none⟩) hxl hx1).trans e3
        clear hv5 hf5
        have HW2 := hid (volWrite_any ub ug cur d.at_ d.p ns d.bl d.bc HNL.out _ HI5.out.u (HRD.out.kept HI5.out.f (by simp)) HGP2.out (by omega))
        go_wp2_with fail
        refine HW2.out.mono ?_
        rintro e w6 ⟨rfl, hv6, hf6⟩
        have HI6 := hid (HI5.out.right hv6 (wrB_length _ _ _) hf6)
        clear hv6 hf6
        go_wp2_with fail
        go_roundw
        case rel => exact ⟨t + 1, wrB cur d.at_ ns, by omega, by go_num, HI6⟩
        case measure => simp [intOf]; omega
      · have hK1 : pickV d.kind 2 = 1 := by omega
        rw [hK1]
        clear hK hK1 hkb
        have HW1 := hid (volDiscard_any vb vg cur d.at_ d.many _ HI3.out.v)
        go_wp2_with fail
        refine HW1.out.mono ?_
        rintro e w5 ⟨rfl, ⟨cs, hcs, hcl, hv5⟩, hf5⟩
        have HCS := hid hcs
        have HI5 := hid (HI3.out.left hv5 hcl hf5)
        have g1 := (hf5.cell (p := ⟨wr.heap.size, 1, none⟩) hxl hx1).trans e1
        have g2 := (hf5.cell (p := ⟨wr.heap.size, 2, none⟩) hxl hx1).trans e2
        clear hv5 hf5 hcs hcl
        have HW2 := hid (volDiscard_any ub ug cur d.at_ d.many _ HI5.out.u)
        go_wp2_with fail
        refine HW2.out.mono ?_
        rintro e w6 ⟨rfl, ⟨cs2, hcs2, hcl2, hv6⟩, hf6⟩
        rw [← HCS.out] at hcs2
        subst hcs2
        have HI6 := hid (HI5.out.right hv6 hcl2 hf6)
        clear hv6 hf6 hcl2
        go_wp2_with fail
        go_roundw
        case rel => exact ⟨t + 1, cs2, by omega, by go_num, HI6⟩
        case measure => simp [intOf]; omega
    · obtain rfl : t = m := by omega
      obtain ⟨X, hX, hXn⟩ : ∃ X : Nat, pickV x.at_ n = X ∧ X < n := ⟨(pickV x.at_ n).toNat, by have := pickV_bd (c := x.at_) (n := (n : Int)) (by omega); omega, by have := pickV_bd (c := x.at_) (n := (n : Int)) (by omega); omega⟩
      obtain ⟨Y, hY, hYn⟩ : ∃ Y : Nat, pickV y.at_ n = Y ∧ Y < n := ⟨(pickV y.at_ n).toNat, by have := pickV_bd (c := y.at_) (n := (n : Int)) (by omega); omega, by have := pickV_bd (c := y.at_) (n := (n : Int)) (by omega); omega⟩
      have HX := hid hX
      have HY := hid hY
      have hbxl := lt_of_heap HBX0.out
      have hbyl := lt_of_heap HBY0.out
      have hbxr := HBX0.out
      have hbyr := HBY0.out
      have HIR := hid hinv.out
      have HBXR := hid (HIR.out.f.heap HBX0.out (by simp))
      have HBYR := hid (HIR.out.f.heap HBY0.out (by simp))
      obtain ⟨bx, hbx⟩ : ∃ bx, w.heap.size = bx := ⟨_, rfl⟩
      have HBE := hid hbx
      rw [hbx] at HBXR HBYR hbxl hbyl
      have n1 := HIR.out.n1
      have n2 := HIR.out.n2
      have vx0 : bx ∉ [vg] := by simp; omega
      have vy0 : bx + 1 ∉ [vg] := by simp; omega
      have ux0 : bx ∉ [ug] := by simp; omega
      have uy0 : bx + 1 ∉ [ug] := by simp; omega
      have cx : ∀ W : World, W.heap[bx]? = some (Obj.cells #[.int .i64 x.kind, .int .i64 x.at_, .int .i64 x.many, .slice x.p x.bl x.bc] 80 (0, 0)) → W.cell? ⟨bx, 1, none⟩ = some (.int .i64 x.at_) ∧ W.cell? ⟨bx, 3, none⟩ = some (.slice x.p x.bl x.bc) := fun W h => ⟨by rw [cell_of_row _ _ _ _ _ _ h]; rfl, by rw [cell_of_row _ _ _ _ _ _ h]; rfl⟩
      have cy : ∀ W : World, W.heap[bx + 1]? = some (Obj.cells #[.int .i64 y.kind, .int .i64 y.at_, .int .i64 y.many, .slice y.p y.bl y.bc] 80 (0, 0)) → W.cell? ⟨bx + 1, 1, none⟩ = some (.int .i64 y.at_) ∧ W.cell? ⟨bx + 1, 3, none⟩ = some (.slice y.p y.bl y.bc) := fun W h => ⟨by rw [cell_of_row _ _ _ _ _ _ h]; rfl, by rw [cell_of_row _ _ _ _ _ _ h]; rfl⟩
      have CX := hid cx
      have CY := hid cy
      obtain ⟨ax1, ax3⟩ := cx _ HBXR.out
      obtain ⟨ay1, ay3⟩ := cy _ HBYR.out
      clear hX hY hbxr hbyr hbx cx cy hinv hlt
      rw [HBE.out]
      go_wp2_with fail
      refine (pick_any x.at_ n x2 x3 (by omega) (by omega) _).mono ?_
      rintro e w4 ⟨rfl, rfl⟩
      rw [HX.out]
      go_wp2_with fail
      refine (pick_any y.at_ n y2 y3 (by omega) (by omega) _).mono ?_
      rintro e w4 ⟨rfl, rfl⟩
      rw [HY.out]
      by_cases g1 : n < x.bl
      · have g1' : (n : Int) < (x.bl : Int) := by omega
        go_wp2_with fail
        go_returns
        exact ⟨rfl, HF0.out.trans HIR.out.f (by simp)⟩
      · have g1' : ¬ (n : Int) < (x.bl : Int) := by omega
        by_cases g2 : n < y.bl
        · have g2' : (n : Int) < (y.bl : Int) := by omega
          go_wp2_with fail
          go_returns
          exact ⟨rfl, HF0.out.trans HIR.out.f (by simp)⟩
        · have g2' : ¬ (n : Int) < (y.bl : Int) := by omega
          by_cases g3 : X < Y + y.bl ∧ Y < X + x.bl
          · have g3' : (X : Int) < (Y : Int) + (y.bl : Int) := by omega
            have g4' : (Y : Int) < (X : Int) + (x.bl : Int) := by omega
            go_wp2_with fail
            go_returns
            exact ⟨rfl, HF0.out.trans HIR.out.f (by simp)⟩
          · have hcase : (¬ (X : Int) < (Y : Int) + (y.bl : Int)) ∨ ((X : Int) < (Y : Int) + (y.bl : Int) ∧ ¬ (Y : Int) < (X : Int) + (x.bl : Int)) := by omega
            have HCM : Hid (wrB (wrB cur (X : Int) zx) (Y : Int) zy = wrB (wrB cur (Y : Int) zy) (X : Int) zx) := wrB_comm (by have := HXL.out; have := HYL.out; omega)
            have HGX : Hid (zx ≠ [] → vg ∉ blk x.p ∧ ug ∉ blk x.p) := fun h => ⟨fun hk => by have := (HXR.out.lows h) vg hk; have := HF0.out.size; omega, fun hk => by have := (HXR.out.lows h) ug hk; have := HF0.out.size; omega⟩
            have HGY : Hid (zy ≠ [] → vg ∉ blk y.p ∧ ug ∉ blk y.p) := fun h => ⟨fun hk => by have := (HYR.out.lows h) vg hk; have := HF0.out.size; omega, fun hk => by have := (HYR.out.lows h) ug hk; have := HF0.out.size; omega⟩
            have HRX : Hid (∀ W, Frm [] w0 W → Rd W x.p zx) := fun W h => (HXR.out.kept HF0.out (by simp)).kept h (by simp)
            have HRY : Hid (∀ W, Frm [] w0 W → Rd W y.p zy) := fun W h => (HYR.out.kept HF0.out (by simp)).kept h (by simp)
            have hcl := HIR.out.l
            have HW1 := hid (volWrite_any vb vg cur (X : Int) x.p zx x.bl x.bc HXL.out _ HIR.out.v (HRX.out _ HIR.out.f) (fun h => (HGX.out h).1) (by omega))
            clear g3
            obtain ⟨E1, hE1⟩ : ∃ E1, errB cur.length (X : Int) (x.bl : Int) = E1 := ⟨_, rfl⟩
            obtain ⟨E2, hE2⟩ : ∃ E2, errB cur.length (Y : Int) (y.bl : Int) = E2 := ⟨_, rfl⟩
            rw [hE1] at HW1
            have HE1 := hid hE1
            have HE2 := hid hE2
            clear hE1 hE2
            rcases hcase with g3' | ⟨g3', g4'⟩
            all_goals
              go_wp2_with fail
              refine HW1.out.mono ?_
              rintro e w5 ⟨rfl, hv5, hf5⟩
              have HI5 := hid (HIR.out.left hv5 (wrB_length _ _ _) hf5)
              have HX5 := hid (hf5.heap HBXR.out vx0)
              have HY5 := hid (hf5.heap HBYR.out vy0)
              clear hv5 hf5
              have hw2 := volWrite_any vb vg (wrB cur (X : Int) zx) (Y : Int) y.p zy y.bl y.bc HYL.out _ HI5.out.v (HRY.out _ HI5.out.f) (fun h => (HGY.out h).1) (by omega)
              rw [wrB_length, HE2.out] at hw2
              have HW2 := hid hw2
              obtain ⟨by1, by3⟩ := CY.out _ HY5.out
              clear hw2
              go_wp2_with fail
              refine HW2.out.mono ?_
              rintro e w6 ⟨rfl, hv6, hf6⟩
              have HI6 := hid (HI5.out.left hv6 (wrB_length _ _ _) hf6)
              have HX6 := hid (hf6.heap HX5.out vx0)
              have HY6 := hid (hf6.heap HY5.out vy0)
              clear hv6 hf6 by1 by3
              have hw3 := volWrite_any ub ug cur (Y : Int) y.p zy y.bl y.bc HYL.out _ HI6.out.u (HRY.out _ HI6.out.f) (fun h => (HGY.out h).2) (by omega)
              rw [HE2.out] at hw3
              have HW3 := hid hw3
              obtain ⟨by1, by3⟩ := CY.out _ HY6.out
              clear hw3
              go_wp2_with fail
              refine HW3.out.mono ?_
              rintro e w7 ⟨rfl, hv7, hf7⟩
              have HI7 := hid (HI6.out.right hv7 (wrB_length _ _ _) hf7)
              have HX7 := hid (hf7.heap HX6.out ux0)
              clear hv7 hf7 by1 by3
              have hw4 := volWrite_any ub ug (wrB cur (Y : Int) zy) (X : Int) x.p zx x.bl x.bc HXL.out _ HI7.out.u (HRX.out _ HI7.out.f) (fun h => (HGX.out h).2) (by omega)
              rw [wrB_length, HE1.out, ← HCM.out] at hw4
              have HW4 := hid hw4
              obtain ⟨bx1, bx3⟩ := CX.out _ HX7.out
              clear hw4
              go_wp2_with fail
              refine HW4.out.mono ?_
              rintro e w8 ⟨rfl, hv8, hf8⟩
              have HI8 := hid (HI7.out.right hv8 (by rw [wrB_length, wrB_length, wrB_length]) hf8)
              clear hv8 hf8 bx1 bx3
              go_wp2_with fail
              refine (volCells_any vb vg _ _ HI8.out.v).mono ?_
              rintro e w9 ⟨pp, pc, xs, n9, rfl, rfl, hs9, hi9, hf9⟩
              have HI9 := hid (HI8.out.other hf9)
              have HC9 := hid hi9
              have HS9 := hid hs9
              clear hi9 hs9 hf9
              go_wp2_with fail
              refine (volCells_any ub ug _ _ HI9.out.u).mono ?_
              rintro e w10 ⟨pp2, pc2, ys, n10, rfl, rfl, hs10, hi10, hf10⟩
              have HI10 := hid (HI9.out.other hf10)
              have hsm := same_any _ _ pp pp2 pc pc2 xs ys w10 (HC9.out.kept hf10 (by simp)) hi10 (HS9.out.trans hs10.symm) (es_fit HC9.out.1)
              have HSM := hid hsm
              clear hi10 hs10 hf10 hsm
              go_wp2_with fail
              refine HSM.out.mono ?_
              rintro e w11 ⟨rfl, hf11⟩
              have HI11 := hid (HI10.out.other hf11)
              clear hf11
              go_wp2_with fail
              go_returns
              exact ⟨rfl, HF0.out.trans HI11.out.f (by simp)⟩
end Go.Proofs.Ytdfefeljnfcngaa
