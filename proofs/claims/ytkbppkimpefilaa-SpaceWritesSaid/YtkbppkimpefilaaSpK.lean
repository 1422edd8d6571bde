/- The document's space maps: Encode. -/
import Derived.Test.YtkbppkimpefilaaSpJ
import Derived.Test.YtkbppkimpefilaaRefW
import Derived.Test.YtkbppkimpefilaaMem
namespace Go.Proofs.Ytkbppkimpefilaa
open Go.RowKit Go.Lib
set_option maxRecDepth 100000

/-- Bytes that have come together since a world: nobody else's. -/
structure App10 (w0 w : World) (p : Option Addr) (n c : Nat) (zs : List Int) : Prop where
  len : zs.length = n
  own : Own w 5 (.slice p n c) zs
  frm : Frm [] w0 w
  new : ∀ k ∈ blk p, w0.heap.size ≤ k
theorem App10.call {w0 w w1 : World} {p : Option Addr} {n c : Nat} {zs : List Int} (h : App10 w0 w p n c zs) (hf : Frm [] w w1) : App10 w0 w1 p n c zs :=
  ⟨h.len, h.own.kept hf (by simp), h.frm.trans hf (by simp), h.new⟩
theorem App10.put {w0 w w2 : World} {p p2 : Option Addr} {n c c2 m : Nat} {zs ys xs : List Int} (h : App10 w0 w p n c zs) (hxs : xs = zs ++ ys) (ho : Own w2 5 (.slice p2 xs.length c2) xs) (hf : Frm (blk p) w w2) (hfr : ∀ k ∈ blk p2, k ∈ blk p ∨ w.heap.size ≤ k) (hm : n + ys.length = m) : xs.length = m ∧ App10 w0 w2 p2 m c2 (zs ++ ys) := by
  have hl : xs.length = m := by rw [hxs, List.length_append, h.len, hm]
  refine ⟨hl, by rw [← hxs]; exact hl, by rw [← hxs]; rw [hl] at ho; exact ho, h.frm.trans hf (fun i hi hlt => by have := h.new i hi; omega), fun k hk => ?_⟩
  rcases hfr k hk with h1 | h1
  · exact h.new k h1
  · have := h.frm.size; omega
/-- Something that was made behind it stays as it was. -/
theorem own_away {w w2 : World} {p q : Option Addr} {n c : Nat} {zs : List Int} (h : Own w 5 (.slice q n c) zs) (hf : Frm (blk p) w w2) (ha : ∀ k ∈ blk q, k ∉ blk p) : Own w2 5 (.slice q n c) zs :=
  h.kept hf (fun k hk => ha k (by rwa [own_blk] at hk))
/-- What the document's encoding answers. -/
def REncA (w : World) (zs : List Int) (err : Int) (e : Ending) (w' : World) : Prop :=
  (err ≠ 0 ∧ e = .returned (.tuple #[.slice none 0 0, .int .i64 err]) ∧ Frm [] w w') ∨
  (err = 0 ∧ ∃ p c, e = .returned (.tuple #[.slice p zs.length c, .int .i64 0]) ∧ Rd w' p zs ∧ Frm [] w w')
set_option maxHeartbeats 12800000 in
theorem refEncE_any (p : Option Addr) (n c : Nat) (es : List Sq) (w : World) (hr : Rv w p (rowE es)) (hn : es.length = n) (hin : InE es) (hc : n ≤ 9223372036854775807) :
    Calls Try.prog 14 #[.slice p n c] w (REncA w (spB es) (chkE es)) := by
  have HR := hid (fun W (hf : Frm [] w W) => hr.kept hf (by simp))
  have HN := hid hn
  have HCK := hid (refChkE_any p n c es w hr hn hin hc)
  obtain ⟨C, hC⟩ : ∃ C, chkE es = C := ⟨_, rfl⟩
  rw [hC] at HCK ⊢
  have HC := hid hC
  clear hr hn hin hC
  go_enter Try.func14, Try.ntmps14
  go_wp2_with fail
  refine HCK.out.mono ?_
  rintro e w1 ⟨rfl, hf1⟩
  have HF1 := hid hf1
  clear hf1 HCK
  by_cases hC0 : C = 0
  · subst hC0
    obtain ⟨hbig, hmay⟩ := chkE_ok.1 HC.out
    rw [HN.out] at hbig
    have HMAY := hid hmay
    have hw0 : IntKind.u64.wrap (n : Int) = (n : Int) := IntWalk.u64_in _ ⟨by omega, by omega⟩
    clear hmay
    go_wp2_with fail
    refine (form_any (n : Int) 2 (by omega) (by omega) (by omega) w1).mono ?_
    rintro e w2 ⟨p2, c2, ok2, rfl, ho2, _, hf2, hb2⟩
    have HA2 : Hid (App10 w w2 p2 (2 + 13 * 0) c2 (le (n : Int) 2 ++ entsB (es.take 0))) := hid (by
      have hz := HF1.out.size
      exact ⟨by simp [le_length, entsB], by simpa [entsB] using ho2, HF1.out.trans hf2 (by simp), fun k hk => by have := hb2 k hk; omega⟩)
    clear ho2 hf2 hb2 HF1 hw0
    go_wp2_with fail
    go_loopw [7, 5] (fun i s5 wr => ∃ (t : Nat) (pk : Option Addr) (ck : Nat), t ≤ n ∧ i = .int .i64 (t : Int) ∧ s5 = .slice pk (2 + 13 * t) ck ∧ Hid (App10 w wr pk (2 + 13 * t) ck (le (n : Int) 2 ++ entsB (es.take t)))) (fun i _ _ => n - (intOf i).toNat)
    case atStart => exact ⟨0, p2, c2, Nat.zero_le _, rfl, rfl, HA2⟩
    case round =>
      clear HA2
      obtain ⟨t, pk, ck, ht, rfl, rfl, ha⟩ := hrel
      by_cases hlt : t < n
      · have t1 : (t : Int) < (n : Int) := by omega
        obtain ⟨y, hy⟩ : ∃ y, es[t]? = some y := ⟨_, List.getElem?_eq_getElem (by rw [HN.out]; exact hlt)⟩
        obtain ⟨m1, m2, m3, m4⟩ := HMAY.out y (List.mem_of_getElem? hy)
        have hwa : IntKind.u64.wrap y.s.a = y.s.a := IntWalk.u64_in _ ⟨by omega, by omega⟩
        have hwm : IntKind.u64.wrap y.s.m = y.s.m := IntWalk.u64_in _ ⟨by omega, by omega⟩
        have HY := hid hy
        obtain ⟨g, o, rfl, y0, y1, y2⟩ := rvE_at (HR.out wr ha.out.frm) hy
        obtain ⟨fv, hfv⟩ : ∃ v : Int, (if y.f then 1 else 0) = v := ⟨_, rfl⟩
        have HFV := hid hfv
        have HFB : Hid (0 ≤ fv ∧ fv < 256) := hid (by rw [← hfv]; split <;> omega)
        obtain ⟨Z, hZ⟩ : ∃ Z, le (n : Int) 2 ++ entsB (es.take t) = Z := ⟨_, rfl⟩
        rw [hZ] at ha
        have HZ : Hid (Z ++ [fv] ++ le y.s.a 6 ++ le y.s.m 6 = le (n : Int) 2 ++ entsB (es.take (t + 1))) := hid (by
          rw [entsB_take HY.out, ← hZ]
          unfold entB
          rw [HFV.out]
          have : le fv 1 = [fv] := by have := HFB.out; simp [le]; omega
          rw [this]
          simp only [List.append_assoc])
        clear hy hZ
        go_upto_if 35 with fail
        go_cut [8] (fun s wx => s = .int .u8 fv ∧ wx = wr)
        case first =>
          cases hyf : y.f with
          | true =>
            rw [hyf] at hfv y0
            simp at hfv
            subst hfv
            go_wp2_with fail
            go_meet
            case rel => exact ⟨rfl, rfl⟩
          | false =>
            rw [hyf] at hfv y0
            simp at hfv
            subst hfv
            go_wp2_with fail
            go_meet
            case rel => exact ⟨rfl, rfl⟩
        obtain ⟨rfl, hwx⟩ := hcut
        subst hwx
        clear hfv
        go_wp2_with fail
        refine (form_any y.s.a 6 (by omega) (by omega) (by omega) _).mono ?_
        rintro e w5 ⟨p5, c5, ok5, rfl, ho5, _, hf5, hb5⟩
        have HA5 := hid (ha.out.call hf5)
        have HO5 := hid ho5
        have HB5 := hid hb5
        have HL0 := hid ha.out.own.low
        obtain ⟨g', o', hg', x0, x1, x2⟩ := rvE_at (HR.out w5 HA5.out.frm) HY.out
        cases hg'
        clear ho5 hf5 hb5 y0 y1 y2 ha
        go_wp2_with fail
        refine (form_any y.s.m 6 (by omega) (by omega) (by omega) _).mono ?_
        rintro e w6 ⟨p6, c6, ok6, rfl, ho6, _, hf6, hb6⟩
        have HA6 := hid (HA5.out.call hf6)
        have HO56 := hid (HO5.out.kept hf6 (by simp))
        have HO6 := hid ho6
        have HB6 := hid hb6
        have hal : Frm [] w6 (w6.alloc (.cells #[.int .u8 fv] 5)) := (Frm.refl _ _).alloc _
        have HA7 := hid (HA6.out.call hal)
        have HO57 := hid (HO56.out.kept hal (by simp))
        have HO67 := hid (HO6.out.kept hal (by simp))
        have HRD : Hid (Rd (w6.alloc (.cells #[.int .u8 fv] 5)) (some ⟨w6.heap.size, 0, none⟩) [fv]) := hid (own_of_block (E := 5) (zs := [fv]) (heap_alloc_new _ _) (by unfold maxLen; simp)).rd
        have HAP : Hid ((∀ k ∈ blk p5, k ∉ blk pk) ∧ ∀ k ∈ blk p6, k ∉ blk pk) := hid ⟨fun k hk hm => by have := HB5.out k hk; have := HL0.out k hm; omega, fun k hk hm => by have := HB6.out k hk; have := HA5.out.own.low k hm; omega⟩
        have HLZ := hid HA7.out.len
        clear ho6 hf6 hb6 hal x0 x1 x2 HA5 HO5 HO6 HO56 HA6
        go_wp2_with (at_builtin; refine wpList_appB rfl _ _ 25 rfl 5 Try.underlying25 infoE pk (2 + 13 * t) ck Z rfl HLZ.out.symm (by have h := HA7.out.own; rw [← HLZ.out] at h; exact h) (some ⟨w6.heap.size, 0, none⟩) 1 1 [fv] rfl rfl (by simp) HRD.out (by rw [HLZ.out]; simp; omega) ?_)
        intro xs7 p7 c7 w7 hxs7 ho7 hf7 hb7
        obtain ⟨hl7, hA7⟩ := HA7.out.put hxs7.out ho7.out hf7.out (by simpa using hb7.out) (m := 2 + 13 * t + 1) (by simp)
        have HA8 := hid hA7
        have HO58 := hid (own_away HO57.out hf7.out HAP.out.1)
        have HO68 := hid (own_away HO67.out hf7.out HAP.out.2)
        have HAP8 : Hid ((∀ k ∈ blk p5, k ∉ blk p7) ∧ ∀ k ∈ blk p6, k ∉ blk p7) := hid (by
          have q5 : ∀ k ∈ blk p5, k < w6.heap.size + 1 := fun k hk => by have := HO57.out.low k hk; simpa using this
          have q6 : ∀ k ∈ blk p6, k < w6.heap.size + 1 := fun k hk => by have := HO67.out.low k hk; simpa using this
          refine ⟨fun k hk hm => ?_, fun k hk hm => ?_⟩
          · rcases hb7.out k hm with h | h
            · exact HAP.out.1 k hk h
            · have := q5 k hk; omega
          · rcases hb7.out k hm with h | h
            · exact HAP.out.2 k hk h
            · have := q6 k hk; omega)
        have HL8 := hid hA7.len
        rw [hl7]
        clear hl7 hA7 hxs7 ho7 hf7 hb7 HA7 HO57 HO67 HAP HLZ
        obtain ⟨Z8, hZ8⟩ : ∃ q, Z ++ [fv] = q := ⟨_, rfl⟩
        rw [hZ8] at HA8 HZ HL8
        clear hZ8
        go_wp2_with (at_builtin; refine wpList_appB rfl _ _ 25 rfl 5 Try.underlying25 infoE p7 (2 + 13 * t + 1) c7 Z8 rfl HL8.out.symm (by have h := HA8.out.own; rw [← HL8.out] at h; exact h) p5 6 c5 (le y.s.a 6) rfl (by rw [le_length]) (by intro h; simp [le] at h) HO58.out.rd (by rw [HL8.out, le_length]; omega) ?_)
        intro xs9 p9 c9 w9 hxs9 ho9 hf9 hb9
        obtain ⟨hl9, hA9⟩ := HA8.out.put hxs9.out ho9.out hf9.out hb9.out (m := 2 + 13 * t + 7) (by rw [le_length])
        have HA9 := hid hA9
        have HO69 := hid (own_away HO68.out hf9.out HAP8.out.2)
        have HL9 := hid hA9.len
        rw [hl9]
        clear hl9 hA9 hxs9 ho9 hf9 hb9 HA8 HO58 HO68 HAP8 HL8
        obtain ⟨Z9, hZ9⟩ : ∃ q, Z8 ++ le y.s.a 6 = q := ⟨_, rfl⟩
        rw [hZ9] at HA9 HZ HL9
        clear hZ9
        go_wp2_with (at_builtin; refine wpList_appB rfl _ _ 25 rfl 5 Try.underlying25 infoE p9 (2 + 13 * t + 7) c9 Z9 rfl HL9.out.symm (by have h := HA9.out.own; rw [← HL9.out] at h; exact h) p6 6 c6 (le y.s.m 6) rfl (by rw [le_length]) (by intro h; simp [le] at h) HO69.out.rd (by rw [HL9.out, le_length]; omega) ?_)
        intro xs10 p10 c10 w10 hxs10 ho10 hf10 hb10
        obtain ⟨hl10, hA10⟩ := HA9.out.put hxs10.out ho10.out hf10.out hb10.out (m := 2 + 13 * (t + 1)) (by rw [le_length]; omega)
        rw [HZ.out] at hA10
        have HA10 := hid hA10
        rw [hl10]
        clear hl10 hA10 hxs10 ho10 hf10 hb10 HA9 HO69 HL9
        go_wp2_with fail
        go_roundw
        case rel => exact ⟨t + 1, p10, c10, by omega, by go_num, rfl, HA10⟩
        case measure => simp [intOf]; omega
      · obtain rfl : n = t := by omega
        have HZ : Hid (le (n : Int) 2 ++ entsB (es.take n) = spB es) := hid (by
          unfold spB
          rw [HN.out, List.take_of_length_le (by rw [HN.out]; exact Nat.le_refl _)])
        rw [HZ.out] at ha
        have HE : Hid (REncA w (spB es) 0 (.returned (.tuple #[.slice pk (2 + 13 * n) ck, .int .i64 0])) wr) := hid (Or.inr ⟨rfl, pk, ck, by rw [ha.out.len], ha.out.own.rd, ha.out.frm⟩)
        clear ha HZ
        go_wp2_with fail
        first | go_returns | skip
        exact HE.out
  · have hb : (C != 0) = true := by simpa using hC0
    have HE : Hid (REncA w (spB es) C (.returned (.tuple #[.slice none 0 0, .int .i64 C])) w1) := hid (Or.inl ⟨hC0, rfl, HF1.out⟩)
    go_wp2_with fail
    first | go_returns | skip
    exact HE.out
end Go.Proofs.Ytkbppkimpefilaa
