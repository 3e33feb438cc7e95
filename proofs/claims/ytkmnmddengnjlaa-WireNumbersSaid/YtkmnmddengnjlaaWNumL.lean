/- WireNumbers: numbers of any size, and bytes that are none, are read as the document says, at the limits of ten bytes too. -/
import Derived.Test.YtkmnmddengnjlaaWReadsL
import Derived.Laws.MakeOwn
namespace Go.Proofs.Ytkmnmddengnjlaa
open Go Go.RowKit

theorem byte_of {n : Int} (h0 : 0 ≤ n) (h1 : n ≤ 255) : ∃ u : UInt8, n = (u.toNat : Int) := by
  refine ⟨UInt8.ofNat n.toNat, ?_⟩
  rw [UInt8.toNat_ofNat']
  omega
theorem Own.put {B g n cap : Nat} {l : List UInt8} {w : World} (h : Own B (.slice (some ⟨g, 0, none⟩) n cap) l w) (i : Nat) (c : UInt8) : Own B (.slice (some ⟨g, 0, none⟩) n cap) (l.set i c) (w.setCell ⟨g, i, none⟩ (.int .u8 (c.toNat : Int))) := by
  rcases h.2 with ⟨hv, _⟩ | ⟨g', cap', cur, hv, hB, hg, hn, hc, hs, ht⟩
  · injection hv with e; cases e
  · injection hv with e1 e2 e3
    injection e1 with e1
    injection e1 with e1
    subst e1 e3
    refine ⟨by simp [Lib.byteCells_length], .inr ⟨g, cap, cur.setIfInBounds i (.int .u8 (c.toNat : Int)), by rw [List.length_set, ← e2], hB, ?_, by rw [List.length_set]; exact hn, hc, by simpa using hs, ?_⟩⟩
    · show (w.heap.modify g _)[g]? = _
      rw [Array.getElem?_modify, if_pos rfl, hg]
      rfl
    · rw [List.length_set]
      have : (cur.setIfInBounds i (.int .u8 (c.toNat : Int))).toList.take (l.length * 1) = (cur.toList.take (l.length * 1)).set i (.int .u8 (c.toNat : Int)) := by
        rw [Array.toList_setIfInBounds, List.take_set]
      rw [this, ht]
      unfold Lib.byteCells
      rw [List.map_set]
theorem Own.cell {B g n cap : Nat} {l : List UInt8} {w : World} (h : Own B (.slice (some ⟨g, 0, none⟩) n cap) l w) (i : Nat) (hi : i < l.length) : w.cell? ⟨g, i, none⟩ = some (.int .u8 (l[i].toNat : Int)) ∧ w.frozen? ⟨g, i, none⟩ = false := by
  rcases h.2 with ⟨hv, _⟩ | ⟨g', cap', cur, hv, hB, hg, hn, hc, hs, ht⟩
  · injection hv with e; cases e
  · injection hv with e1 e2 e3
    injection e1 with e1
    injection e1 with e1
    subst e1
    refine ⟨?_, Lib.frozen_of_heap hg i⟩
    have h1 : cur.toList[i]? = some (.int .u8 (l[i].toNat : Int)) := by
      have := congrArg (fun x : List Value => x[i]?) ht
      simp only [Nat.mul_one, List.getElem?_take, hi, if_true] at this
      rw [this]
      simp [Lib.byteCells, hi]
    rw [Lib.cell_of_heap hg]
    simpa using h1
theorem Own.blk {B g n cap : Nat} {l : List UInt8} {w : World} (h : Own B (.slice (some ⟨g, 0, none⟩) n cap) l w) : B ≤ g ∧ g < w.heap.size := by
  rcases h.2 with ⟨hv, _⟩ | ⟨g', cap', cur, hv, hB, hg, hn, hc, hs, ht⟩
  · injection hv with e; cases e
  · injection hv with e1 e2 e3
    injection e1 with e1
    injection e1 with e1
    subst e1
    exact ⟨hB, (Array.getElem?_eq_some_iff.1 hg).1⟩
theorem or8b (a : Nat) (h : a < 256) : bits .or .u8 128 (a : Int) = ((a % 128 + 128 : Nat) : Int) := by
  have : ∀ a : Fin 256, bits .or .u8 128 ((a.1 : Nat) : Int) = ((a.1 % 128 + 128 : Nat) : Int) := by decide +kernel
  exact this ⟨a, h⟩
theorem run_makeLong (w : World) : (Instr.makeSlice 22 (.int .i64 9) (.int .i64 12)).run Try.prog w = .ok (.slice (some ⟨w.heap.size, 0, none⟩) 9 12) (w.alloc (.cells (madeCells #[.int .u8 0] 12) 5)) := by
  obtain ⟨i0, hi, hz0, hz1, hz2⟩ := info_parts infoByte
  have := run_make (P := Try.prog) w 22 5 i0 (.int .u8 0) Try.underlying22 hi hz0 .i64 .i64 9 12 (by omega) (by omega) (by rw [hz2]; omega) (by omega)
  rw [hz1] at this
  simpa [Value.cells] using this
theorem made_n (n : Nat) : madeCells #[.int .u8 0] n = (List.replicate n (Value.int .u8 0)).toArray := by
  apply Array.ext
  · simp [madeCells]
  · intro i h1 h2
    simp [madeCells, Nat.mod_one]
theorem own_long (w : World) : Own w.heap.size (.slice (some ⟨w.heap.size, 0, none⟩) 9 12) (List.replicate 9 0) (w.alloc (.cells (madeCells #[.int .u8 0] 12) 5)) := by
  refine ⟨by simp [Lib.byteCells_length], .inr ⟨w.heap.size, 12, madeCells #[.int .u8 0] 12, by simp, Nat.le_refl _, heap_alloc_new w _, by simp, by unfold maxLen; omega, by simp [madeCells], ?_⟩⟩
  rw [made_n]
  rfl
theorem fields4 {a0 a1 a2 a3 : Option Addr} {l0 l1 l2 l3 : List UInt8} {c0 c1 c2 c3 : Nat} {w : World} (h0 : Src a0 l0 c0 w) (h1 : Src a1 l1 c1 w) (h2 : Src a2 l2 c2 w) (h3 : Src a3 l3 c3 w) (n0 n1 n2 n3 : Nat) (e0 : n0 = l0.length) (e1 : n1 = l1.length) (e2 : n2 = l2.length) (e3 : n3 = l3.length) :
    FieldsAre (some ⟨w.heap.size, 0, none⟩) [l0, l1, l2, l3] (w.alloc (.cells #[.slice a0 n0 c0, .slice a1 n1 c1, .slice a2 n2 c2, .slice a3 n3 c3] 22)) := by
  subst e0 e1 e2 e3
  have hb : Below w.heap.size w (w.alloc (.cells #[.slice a0 (l0.length : Nat) c0, .slice a1 (l1.length : Nat) c1, .slice a2 (l2.length : Nat) c2, .slice a3 (l3.length : Nat) c3] 22)) := (Below.refl _ w).alloc (Nat.le_refl _) _
  intro i hi
  match i, hi with
  | 0, _ => exact ⟨_, 0, a0, c0, rfl, by simp, by rw [Lib.cell_of_heap (heap_alloc_new w _)]; rfl, h0.nil, h0.le, (h0.below (Nat.le_refl _) hb).bytes⟩
  | 1, _ => exact ⟨_, 0, a1, c1, rfl, by simp, by rw [Lib.cell_of_heap (heap_alloc_new w _)]; rfl, h1.nil, h1.le, (h1.below (Nat.le_refl _) hb).bytes⟩
  | 2, _ => exact ⟨_, 0, a2, c2, rfl, by simp, by rw [Lib.cell_of_heap (heap_alloc_new w _)]; rfl, h2.nil, h2.le, (h2.below (Nat.le_refl _) hb).bytes⟩
  | 3, _ => exact ⟨_, 0, a3, c3, rfl, by simp, by rw [Lib.cell_of_heap (heap_alloc_new w _)]; rfl, h3.nil, h3.le, (h3.below (Nat.le_refl _) hb).bytes⟩
  | i + 4, hi => exact absurd hi (by simp)
/-- What holds while the long row is laid: it is some row of nine bytes. -/
def LongAt (g : Nat) (w : World) (wr : World) : Prop := ∃ L : List UInt8, L.length = 9 ∧ Own g (.slice (some ⟨g, 0, none⟩) 9 12) L wr ∧ Below w.heap.size w wr
set_option maxHeartbeats 16000000 in
set_option maxRecDepth 100000 in
theorem lawNum_walk (a0 : Option Addr) (l : List UInt8) (c0 : Nat) (n : Int) (last : UInt8) (w : World) (hn : -9223372036854775808 ≤ n ∧ n ≤ 9223372036854775807) (hS : Src a0 l c0 w) :
    Calls Try.prog 7 #[.int .i64 n, .slice a0 (l.length : Nat) c0, .int .u8 (last.toNat : Int)] w fun e w' => e = .returned (.bool true) ∧ Below w.heap.size w w' := by
  have B := Below.refl w.heap.size w
  replace hn := Lib.hid hn
  go_enter Try.func7, Try.ntmps7
  go_upto_if 17 with (go_at_call 9; refine (awake_any _).mono ?_; rintro e W ⟨rfl, hb⟩; replace B := B.trans (hb.mono B.size); have hSw := hS.below (Nat.le_refl _) hb; clear hb)
  go_cut [1] (fun b wx => ∃ L : List UInt8, L.length ≤ 12 ∧ b = .slice a0 (L.length : Nat) c0 ∧ Src a0 L c0 wx ∧ wx = W)
  case first =>
    by_cases h12 : 12 < l.length
    · have h12' : decide (12 < l.length) = true := decide_eq_true h12
      have hle := hSw.le
      have hc12 : 12 ≤ c0 := by omega
      have hc12' : (12 : Int) ≤ (c0 : Int) := by omega
      have ht : (l.take 12).length = 12 := by rw [List.length_take]; omega
      have h12i : (12 : Int) < (l.length : Int) := by omega
      have hS2 : Src a0 (l.take 12) c0 W := ⟨hSw.nil, by omega, hSw.bytes.take 12⟩
      replace ht := Lib.hid ht
      go_wp2
      go_meet
      case rel => exact ⟨l.take 12, by rw [ht.out]; omega, by rw [ht.out], hS2, rfl⟩
    · have h12' : decide (12 < l.length) = false := decide_eq_false h12
      have h12i : ¬ (12 : Int) < (l.length : Int) := by omega
      go_wp2
      go_meet
      case rel => exact ⟨l, by omega, rfl, hSw, rfl⟩
  case rest =>
    obtain ⟨L, hL, rfl, hS2, rfl⟩ := hcut
    clear hS hSw
    have hmk := run_makeLong wc
    have hst : LongAt wc.heap.size wc (wc.alloc (.cells (madeCells #[.int .u8 0] 12) 5)) := ⟨List.replicate 9 0, by simp, own_long wc, (Below.refl _ wc).alloc (Nat.le_refl _) _⟩
    go_wp2
    generalize wc.alloc (.cells (madeCells #[.int .u8 0] 12) 5) = w0 at hst ⊢
    clear hmk
    go_loopw [8, 23] (fun _ i wr => ∃ k : Nat, k ≤ 9 ∧ i = .int .i64 k ∧ LongAt wc.heap.size wc wr) (fun _ i _ => 9 - (intOf i).toNat)
    case atStart => exact ⟨0, by omega, rfl, hst⟩
    case round =>
      obtain ⟨k, hk, rfl, L9, hL9, hown, hbl⟩ := hrel
      clear hst
      by_cases hlt : k < 9
      · have hlt' : (k : Int) < 9 := by omega
        obtain ⟨hc, hf⟩ := hown.cell k (by omega)
        have hown1 := hown.put k 128
        have hb1 : Below wc.heap.size wc (wr.setCell ⟨wc.heap.size, k, none⟩ (.int .u8 128)) := hbl.setCell (p := ⟨wc.heap.size, k, none⟩) (Nat.le_refl _) _
        change Own wc.heap.size _ _ (wr.setCell ⟨wc.heap.size, k, none⟩ (.int .u8 128)) at hown1
        by_cases hkL : k < L.length
        · have hkL' : (k : Int) < (L.length : Int) := by omega
          obtain ⟨hc1, hf1⟩ := hown1.cell k (by rw [List.length_set]; omega)
          rw [List.getElem_set_self] at hc1
          have hc1' : (wr.setCell ⟨wc.heap.size, k, none⟩ (.int .u8 128)).drew.cell? ⟨wc.heap.size, k, none⟩ = some (.int .u8 128) := hc1
          have hf1' : (wr.setCell ⟨wc.heap.size, k, none⟩ (.int .u8 128)).drew.frozen? ⟨wc.heap.size, k, none⟩ = false := hf1
          obtain ⟨bb, off, rfl, hbb, hbc⟩ := (hS2.bytes.below (Nat.le_refl _) hb1.drew) k hkL
          have hx := L[k].toNat_lt
          generalize L[k].toNat = x at hbc hx
          have hx' : x < 256 := hx
          have hor : bits .or .u8 128 (x : Int) = ((UInt8.ofNat (x % 128 + 128)).toNat : Int) := by
            rw [ofNat_toNat (by omega)]
            exact or8b x hx
          obtain ⟨c, hcc⟩ : ∃ c, UInt8.ofNat (x % 128 + 128) = c := ⟨_, rfl⟩
          rw [hcc] at hor
          have hown1d : Own wc.heap.size (.slice (some ⟨wc.heap.size, 0, none⟩) 9 12) (L9.set k 128) (wr.setCell ⟨wc.heap.size, k, none⟩ (.int .u8 128)).drew := ⟨hown1.1, hown1.2⟩
          have hown2 := hown1d.put k c
          have hb2 := hb1.drew.setCell (p := ⟨wc.heap.size, k, none⟩) (Nat.le_refl _) (.int .u8 (c.toNat : Int))
          have hfin : LongAt wc.heap.size wc ((wr.setCell ⟨wc.heap.size, k, none⟩ (.int .u8 128)).drew.setCell ⟨wc.heap.size, k, none⟩ (.int .u8 (c.toNat : Int))) := ⟨_, by rw [List.length_set, List.length_set]; exact hL9, hown2, hb2⟩
          replace hfin := Lib.hid hfin
          replace hown := Lib.hid hown
          replace hown1 := Lib.hid hown1
          replace hown1d := Lib.hid hown1d
          replace hown2 := Lib.hid hown2
          clear hcc hx hown1d hown2 hb2
          go_upto_region 11 with (fail)
          go_region
          all_goals
            go_wp2
            go_roundw
            case rel => exact ⟨k + 1, by omega, by go_num, hfin.out⟩
            case measure => simp [intOf]; omega
        · have hkL' : ¬ (k : Int) < (L.length : Int) := by omega
          have hfin : LongAt wc.heap.size wc (wr.setCell ⟨wc.heap.size, k, none⟩ (.int .u8 128)) := ⟨_, by rw [List.length_set]; exact hL9, hown1, hb1⟩
          replace hfin := Lib.hid hfin
          replace hown := Lib.hid hown
          clear hown1 hb1
          go_wp2
          go_roundw
          case rel => exact ⟨k + 1, by omega, by go_num, hfin.out⟩
          case measure => simp [intOf]; omega
      · obtain rfl : k = 9 := by omega
        have hz := hbl.size
        have hB0 := B.size
        go_wp2_with (at_builtin; refine wpList_own1 rfl _ _ rfl last hown rfl rfl (by omega) hz ?_)
        intro v1 w1 hown1 hb1
        obtain ⟨p1, q1, rfl, i1, i2, i3, i4⟩ := hown1.fits
        have S1 : Src p1 (L9 ++ [last]) q1 w1 := ⟨i1, i2, i4⟩
        have z1 : (L9 ++ [last]).length ≤ 1000 := by rw [List.length_append, hL9]; simp
        generalize L9 ++ [last] = X1 at S1 z1 hown1 i2 i4 ⊢
        have hb1x := hbl.trans hb1
        have S0 := hS2.below (Nat.le_refl _) hb1x
        replace B := B.trans (hb1x.mono B.size)
        clear hbl hS2 hb1 hb1x hown hown1 i1 i2 i3 i4 hz
        go_wp2_with (at_builtin; refine wpList_ownL rfl _ _ rfl L a0 c0 (own_nil w1.heap.size w1) rfl rfl S0.nil S0.bytes (by simp; omega) (Nat.le_refl _) ?_)
        intro v3 w3 hown3 hb3
        have hz3 := hb3.size
        have hown3' : Own w1.heap.size v3 L w3 := hown3
        clear hown3
        go_wp2_with (at_builtin; refine wpList_own1 rfl _ _ rfl 0 hown3' rfl rfl (by omega) hz3 ?_)
        intro v4 w4 hown4 hb4
        obtain ⟨p2, q2, rfl, i1, i2, i3, i4⟩ := hown4.fits
        have S2 : Src p2 (L ++ [0]) q2 w4 := ⟨i1, i2, i4⟩
        have z2 : (L ++ [0]).length ≤ 1000 := by rw [List.length_append]; simp; omega
        generalize L ++ [0] = X2 at S2 z2 hown4 i2 i4 ⊢
        have hb34 := hb3.trans hb4
        replace S0 := S0.below (Nat.le_refl _) hb34
        replace S1 := S1.below (Nat.le_refl _) hb34
        replace B := B.trans (hb34.mono B.size)
        clear hown3' hown4 hb3 hb4 hb34 i1 i2 i3 i4 hz3
        have hRN : Calls Try.prog 11 #[.slice none 0 0, .int .i64 n] w4 (MadeOwn (numB n) w4) := refNumber_any none [] 0 n w4 (by simp) (src_nil _) hn.out.1 hn.out.2
        replace hRN := Lib.hid hRN
        go_wp2_with (go_at_call 11; refine hRN.out.mono ?_)
        rintro en w5 ⟨v5, rfl, hown5, hb5⟩
        obtain ⟨p3, q3, rfl, i1, i2, i3, i4⟩ := hown5.fits
        have S3 : Src p3 (numB n) q3 w5 := ⟨i1, i2, i4⟩
        have z3 : (numB n).length ≤ 1000 := by have := numB_len n hn.out.1 hn.out.2; omega
        generalize numB n = X3 at S3 z3 hown5 i2 i4 ⊢
        replace S0 := S0.below (Nat.le_refl _) hb5
        replace S1 := S1.below (Nat.le_refl _) hb5
        replace S2 := S2.below (Nat.le_refl _) hb5
        replace B := B.trans (hb5.mono B.size)
        have FF := fields4 S0 S1 S2 S3 L.length X1.length X2.length X3.length rfl rfl rfl rfl
        have hb6 : Below w5.heap.size w5 (w5.alloc (.cells #[.slice a0 L.length c0, .slice p1 X1.length q1, .slice p2 X2.length q2, .slice p3 X3.length q3] 22)) := (Below.refl _ _).alloc (Nat.le_refl _) _
        have hB6 := B.trans (hb6.mono B.size)
        have hfs : ∀ f ∈ [L, X1, X2, X3], f.length ≤ 1000 := by
          intro f hf
          simp only [List.mem_cons, List.not_mem_nil, or_false] at hf
          rcases hf with rfl | rfl | rfl | rfl <;> omega
        clear hRN hown5 hb5 i1 i2 i3 i4 S0 S1 S2 S3
        go_wp2
        generalize w5.alloc (.cells #[.slice a0 L.length c0, .slice p1 X1.length q1, .slice p2 X2.length q2, .slice p3 X3.length q3] 22) = w6 at FF hb6 hB6 ⊢
        clear hb6 B z1 z2 z3
        obtain ⟨fs, hfs4, hfl⟩ : ∃ fs : List (List UInt8), [L, X1, X2, X3] = fs ∧ fs.length = 4 := ⟨_, rfl, rfl⟩
        rw [hfs4] at FF hfs
        replace hfl := Lib.hid hfl
        replace hfs := Lib.hid hfs
        clear hfs4
        go_loopw [57] (fun i wr => ∃ k : Nat, k ≤ 4 ∧ i = .int .i64 k ∧ Below w6.heap.size w6 wr) (fun i _ => 4 - (intOf i).toNat)
        case atStart => exact ⟨0, by omega, rfl, Below.refl _ _⟩
        case round =>
          obtain ⟨k, hk, rfl, hbl⟩ := hrel
          by_cases hlt : k < 4
          · have hlt' : (k : Int) < 4 := by omega
            have hkl : k < fs.length := by have := hfl.out; omega
            obtain ⟨b, off, a1, c1, hb0, hbk, hcl, h1, h2, h3⟩ := FF k hkl
            cases hb0
            have hx := hfs.out fs[k] (List.getElem_mem hkl)
            have hcw : wr.cell? ⟨w5.heap.size, 0 + k, none⟩ = w6.cell? ⟨w5.heap.size, 0 + k, none⟩ := hbl.cell (p := ⟨w5.heap.size, 0 + k, none⟩) hbk
            rw [hcl, Nat.zero_add] at hcw
            generalize fs[k] = x at hcw h2 h3 hx
            have Sx : Src a1 x c1 wr := ⟨h1, h2, h3.below (Nat.le_refl _) hbl⟩
            have hB7 := hB6.trans (hbl.mono hB6.size)
            have hNw := Lib.hid (new_any (by omega) Sx)
            clear hcl h1 h2 h3
            go_wp2_with (go_at_call 19; refine hNw.out.mono ?_)
            rintro en w7 ⟨R, rfl, hR, hrd, hb7⟩
            have hBI : BIn 0 wr.heap.size a1 x w7 := Sx.bytes.low.kept (Kept.of_below (C := wr.heap.size) hb7) (.inr (Nat.le_refl _))
            have hQn := Lib.hid (refNew_any (by omega) Sx.le hBI)
            have hRl := hrd.lt
            go_upto_region 17 with (go_at_call 20; refine hQn.out.mono ?_; rintro en w8 ⟨rfl, hrq, hb8⟩)
            have hrd8 := hrd.below hR hb8
            have hb78 := hbl.trans ((hb7.trans (hb8.mono hb7.size)).mono hbl.size)
            have hrz := hb7.size
            have hloB := hbl.size
            generalize w7.heap.size = Q at hrq hRl ⊢
            generalize wr.heap.size = lo at hR hrd8 hrq hrz hloB
            clear hNw hQn hrd hb7 hb8 hBI Sx
            have hrdD := hrd8.below hR ((Below.refl _ w8).drew)
            have hrqD := hrq.drew
            have cA := Lib.hid (number_any hrdD)
            have cB := Lib.hid (fun w' (hk : Kept R w8.drew w') => refNumber_any' (hrqD.kept hk (by omega) (by omega)))
            have e8 : w8.drew.heap.size = w8.heap.size := rfl
            have hstep : ∀ w9 w10, Kept R w8.drew w9 → Rd (numR x 0).2.1 (numR x 0).2.2 lo R w9 → Kept Q w9 w10 → Rq (numR x 0).2.1 (numR x 0).2.2 lo Q w10 → Rd (numR x 0).2.1 (numR x 0).2.2 lo R w10 ∧ Below w6.heap.size w6 w10.drew := fun w9 w10 g1 g2 g3 g4 =>
              ⟨g2.kept g3 (.inr (by omega)) hR, hb78.trans (((Below.refl _ w8).drew.trans ((g1.below (by omega) hb78.size).trans (g3.below (by omega) (by have := g1.size; have := hb78.size; omega)))).drew)⟩
            generalize (numR x 0).1 = v at cA cB
            generalize (numR x 0).2.1 = l9 at cA cB hstep
            generalize (numR x 0).2.2 = e9 at cA cB hstep
            replace hstep := Lib.hid hstep
            clear e8
            replace hrdD := Lib.hid hrdD
            replace hrqD := Lib.hid hrqD
            replace hrd8 := Lib.hid hrd8
            replace hrq := Lib.hid hrq
            go_region_with (first | (go_at_call 29; go_fit cA.out; rintro en w9 ⟨rfl, hk9, hr9⟩; have cB9 := Lib.hid (cB.out w9 hk9); clear cA cB) | (go_at_call 32; go_fit cB9.out; rintro en w10 ⟨rfl, hk10, hq10⟩; have hS10 := hstep.out w9 w10 hk9 hr9 hk10 hq10; have cE := Lib.hid (err_any hS10.1); have cN := Lib.hid (end_any hS10.1); have cQ := Lib.hid (refEnd_any hq10); have c2 := hq10.err; have hF10 := Lib.hid hS10.2; clear cB9 hS10 hk9 hr9 hk10 hq10) | (go_at_call 27; go_fit cE.out; rintro en w11 ⟨rfl, rfl⟩; clear cE) | (go_at_call 23; go_fit cN.out; rintro en w12 ⟨rfl, rfl⟩; clear cN) | (go_at_call 24; go_fit cQ.out; rintro en w13 ⟨rfl, rfl⟩; clear cQ))
            all_goals
              go_wp2
              go_roundw
              case rel => exact ⟨k + 1, by omega, by go_num, hF10.out⟩
              case measure => simp [intOf]; omega
          · obtain rfl : k = 4 := by omega
            go_wp2
            go_ret
            exact ⟨rfl, hB6.trans (hbl.mono hB6.size)⟩
end Go.Proofs.Ytkmnmddengnjlaa
