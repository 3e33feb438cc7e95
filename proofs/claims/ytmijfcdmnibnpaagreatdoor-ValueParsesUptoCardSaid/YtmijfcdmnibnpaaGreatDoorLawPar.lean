/- ValueParses: for every text (of at most 1048576 bytes), choices, place and byte, value.Parse and the document's answer agree on the eight texts that the statement makes. -/
import Derived.Test.YtmijfcdmnibnpaaGreatDoorPg
import Derived.Test.YtmijfcdmnibnpaaGreatDoorPi
import Derived.Test.YtmijfcdmnibnpaaGreatDoorTrip
import Derived.Test.YtmijfcdmnibnpaaGreatDoorPc
import Derived.Test.YtmijfcdmnibnpaaGreatDoorPm
import Derived.Lib.ConvBytes
import Derived.Deep.RegionWith
import Derived.BigRegion
import Derived.Deep.DeepFit
import Derived.Deep.RegionHeld3
namespace Go.Proofs.YtmijfcdmnibnpaaGreatDoor
open Go Go.RowKit

theorem eqVr (x : Val) : eqV x x = true := by unfold eqV; simp
theorem parse_empty : (parseR ⟨#[]⟩).2 ≠ 0 := by decide +kernel
/-- '[]byte(q)': a new row that holds q's bytes. -/
theorem conv_bytes (q : ByteArray) (V : World) : ∃ (V1 : World) (cap : Nat), (convert 9 22 (.string q)).run Tryz.prog V = .ok (.slice (some ⟨V.heap.size, 0, none⟩) q.size cap) V1 ∧ Below V.heap.size V V1 ∧ V.heap.size < V1.heap.size ∧
    (∀ (j : Nat) (h : j < q.size), V1.cell? ⟨V.heap.size, j, none⟩ = some (.int .u8 ((q[j]'h).toNat : Int))) ∧ (∀ j, j < q.size → V1.frozen? ⟨V.heap.size, j, none⟩ = false) ∧ q.size ≤ cap := by
  refine ⟨Lib.bytesWorld V 5 q, _, Lib.run_convert_string_bytes V 9 22 5 q Tryz.underlying9 Tryz.underlying22 Tryz.underlying5, ?_, ?_, ?_, ?_, ?_⟩
  · exact ⟨rfl, rfl, rfl, by rw [Lib.bytesWorld_size]; omega, fun k hk => Lib.bytesWorld_at_old V _ q k hk⟩
  · rw [Lib.bytesWorld_size]; omega
  · intro j h
    rw [Lib.bytesWorld_cell V _ q j h, ← get_list q j h, get_bang q j h]
  · intro j h
    have hs : q.size ≤ (Lib.bytesCells V 5 q).size := by
      have : (Lib.bytesCells V 5 q).size = q.size + (grownCap V q.size 0 5 - q.size) := by simp [Lib.bytesCells]
      omega
    simp only [World.frozen?, Lib.bytesWorld_at_new]
    simp
    omega
  · exact grownCap_ge V q.size 0 _
theorem parseR_small (s : ByteArray) : (parseR s).1.list.length ≤ s.size := by
  unfold parseR
  split
  · exact (readP_small s).2.1
  · exact Nat.zero_le _
theorem format_pos (x : Val) (h : checkE x = 0) : 0 < (formatP x).1.size := by
  rcases Nat.eq_zero_or_pos (formatP x).1.size with h0 | h0
  · have e : (formatP x).1 = ⟨#[]⟩ := by
      have h1 : (formatP x).1.data = #[] := Array.eq_empty_of_size_eq_zero h0
      exact congrArg ByteArray.mk h1
    have h2 := parse_format x h
    rw [e] at h2
    exact absurd (congrArg Prod.snd h2) parse_empty
  · exact h0
set_option maxHeartbeats 16000000 in
set_option maxRecDepth 100000 in
theorem parses_walk (s : ByteArray) (a1 : Option Addr) (l : List UInt8) (c1 : Nat) (at_ : Int) (ch : UInt8) (w : World) (E : Env w) (G : DrawL w) (hs : s.size ≤ 1048576) (hat : -9223372036854775808 ≤ at_ ∧ at_ ≤ 9223372036854775807) (b1 : l.length ≤ c1) (m1 : c1 ≤ 9223372036854775807) (y1 : BytesOf a1 l w) :
    Calls Tryz.prog 3 #[.string s, .slice a1 (l.length : Nat) c1, .int .i64 at_, .int .u8 (ch.toNat : Int)] w fun e w' => e = .returned (.bool true) ∧ Below w.heap.size w w' := by
  have B := Below.refl w.heap.size w
  replace hat := Lib.hid hat
  replace hs := Lib.hid hs
  replace m1 := Lib.hid m1
  go_enter Tryz.func3, Tryz.ntmps3
  go_upto_region 3 with (go_at_call 5; refine (awake_any _ E).mono ?_; rintro e W ⟨rfl, hb⟩; replace E := E.below hb; replace G := G.below hb; replace B := B.trans (hb.mono B.size); have yB : BytesOf a1 l W := (fun i hi => by obtain ⟨b, off, e1, e2, e3⟩ := y1 i hi; exact ⟨b, off, e1, Nat.lt_of_lt_of_le e2 hb.size, (hb.cell (p := ⟨b, off + i, none⟩) e2).trans e3⟩); clear hb y1)
  have hnew : Calls Tryz.prog 7 #[.slice a1 (l.length : Nat) c1, .int .i64 10] W (fun e w' => e = .returned (.pointer (some ⟨W.heap.size, 0, none⟩)) ∧ Codes (l.take 10) a1 c1 W.heap.size 0 w' ∧ Below W.heap.size W w') := new_any l a1 c1 10 W (by have := m1.out; omega) b1 (by omega) yB
  have hGf : ∀ W', Below W.heap.size W W' → DrawG W.heap.size W' := fun W' hb => G.fresh hb
  replace hnew := Lib.hid hnew
  replace hGf := Lib.hid hGf
  go_wp2_with (first | (go_at_call 7; refine hnew.out.mono ?_; rintro e W3 ⟨rfl, hcd, hb3⟩; have hany := Lib.hid (any_any _ a1 c1 W.heap.size 0 W3 (by rw [List.length_take]; omega) hcd (hGf.out _ hb3))) | (go_at_call 8; refine hany.out.mono ?_; rintro e W4 ⟨⟨x, b, d, rfl, ⟨kk, hkk, hdr⟩, htx, hnd, hld⟩, hkp, hce⟩; have hb4 : Below W.heap.size W W4 := hb3.trans (hkp.below (Nat.le_refl _) hb3.size); have hfm := refFormat_any x b d W4 (by have := hdr.text; omega) (by have := hdr.len; omega) (fun s hs => by have := hdr.each s hs; omega) (E.tabs.below hb4) htx.texts; have hsz := format_size x (by have := hdr.text; omega); have hps := format_pos x hdr.ok; generalize (formatP x).1 = t at hfm hsz hps; generalize (formatP x).2 = er at hfm; replace hfm := Lib.hid hfm) | (go_at_call 6; refine hfm.out.mono ?_; rintro e W5 ⟨rfl, hb5⟩; have hb05 := hb4.trans (hb5.mono hb4.size); clear hnew hGf hcd hb3 hany hkk hdr htx hnd hld hkp hce hb4 hfm hb5 yB G))
  obtain ⟨V1, cap, hrun, hb1, hlt1, hcells, hfz, hcap⟩ := conv_bytes t W5
  rw [hrun]
  simp only [Result.andThen]
  rw [Oper.upon_value]
  have hps1 : (0 : Int) < (t.size : Int) := by omega
  obtain ⟨k, hk⟩ : ∃ k : Nat, at_ % (t.size : Int) = (k : Int) := ⟨(at_ % (t.size : Int)).toNat, by have := Int.emod_nonneg at_ (show (t.size : Int) ≠ 0 by omega); omega⟩
  have hkl : k < t.size := by
    have := Int.emod_lt_of_pos at_ hps1
    omega
  have hmod := fun V => mod_any at_ t.size V hat.out hps1 (by omega)
  rw [hk] at hmod
  clear hk hrun
  replace hmod := Lib.hid hmod
  have hck := hcells k hkl
  have hfk := hfz k hkl
  have hql : t.data.toList.length = t.size := rfl
  have hcv : (convert 22 9 (.slice (some ⟨W5.heap.size, 0, none⟩) t.size cap)).run Tryz.prog (V1.setCell ⟨W5.heap.size, k, none⟩ (.int .u8 (ch.toNat : Int))).drew = .ok (.string ⟨(t.data.toList.set k ch).toArray⟩) (V1.setCell ⟨W5.heap.size, k, none⟩ (.int .u8 (ch.toNat : Int))).drew := by
    have := run_convert_bytes_back (P := Tryz.prog) (V1.setCell ⟨W5.heap.size, k, none⟩ (.int .u8 (ch.toNat : Int))).drew 22 9 5 ⟨W5.heap.size, 0, none⟩ cap (t.data.toList.set k ch) Tryz.underlying22 Tryz.underlying5 Tryz.underlying9 fun j hj => by
      have hjq : j < t.size := by rw [List.length_set] at hj; exact hj
      rw [show (⟨W5.heap.size, 0, none⟩ : Addr).add j = ⟨W5.heap.size, j, none⟩ from (by simp [Addr.add]; exact fun h => h.symm)]
      show (V1.setCell ⟨W5.heap.size, k, none⟩ (.int .u8 (ch.toNat : Int))).cell? ⟨W5.heap.size, j, none⟩ = _
      by_cases hjk : k = j
      · subst hjk
        rw [World.cell?_setCell_same _ _ _ hck]
        simp
      · rw [World.cell?_setCell_other _ _ _ _ (show (⟨W5.heap.size, k, none⟩ : Addr) ≠ ⟨W5.heap.size, j, none⟩ from fun e => hjk (by injection e)), hcells j hjq, List.getElem_set_ne hjk]
        rfl
    rw [List.length_set, hql] at this
    exact this
  obtain ⟨t2, ht2e⟩ : ∃ t2 : ByteArray, t2 = ⟨(t.data.toList.set k ch).toArray⟩ := ⟨_, rfl⟩
  rw [← ht2e] at hcv
  have ht2s : t2.size = t.size := by
    rw [ht2e]
    show (t.data.toList.set k ch).toArray.size = _
    simp
  have hb2 : Below W5.heap.size W5 (V1.setCell ⟨W5.heap.size, k, none⟩ (.int .u8 (ch.toNat : Int))) := hb1.setCell (p := ⟨W5.heap.size, k, none⟩) (Nat.le_refl _) _
  have hb02 := hb05.trans (hb2.mono hb05.size)
  have E3 := E.below hb02
  have B3 := B.trans (hb02.mono B.size)
  clear E B hb2 hb02 hb05 ht2e hcells hfz hb1
  go_upto_region 6 with (go_at_call 9; refine (hmod.out _).mono ?_; rintro e V ⟨rfl, rfl⟩)
  clear hmod
  go_upto_region 7 with (fail)
  clear hck hfk hcap
  have hVs : (V1.setCell ⟨W5.heap.size, k, none⟩ (.int .u8 (ch.toNat : Int))).heap.size = V1.heap.size := World.size_setCell _ _ _
  generalize V1.setCell ⟨W5.heap.size, k, none⟩ (.int .u8 (ch.toNat : Int)) = V2 at hcv E3 B3 hVs ⊢
  have hk0 : (0 : Int) ≤ (k : Int) := Int.natCast_nonneg _
  have hkt : (k : Int) ≤ (t.size : Int) := by omega
  replace hVs := Lib.hid hVs
  replace hql := Lib.hid hql
  have hsb := hs.out
  have z1 : (⟨#[91]⟩ : ByteArray).size = 1 := rfl
  have z2 : (⟨#[93]⟩ : ByteArray).size = 1 := rfl
  have z4 : (⟨#[46, 48, 46, 49]⟩ : ByteArray).size = 4 := rfl
  have z5 : (⟨#[91, 34, 97, 34, 44]⟩ : ByteArray).size = 5 := rfl
  have z3 : (⟨#[91]⟩ ++ s : ByteArray).size = 1 + s.size := by rw [ByteArray.size_append]; omega
  have z6 : (⟨#[91, 34, 97, 34, 44]⟩ ++ s : ByteArray).size = 5 + s.size := by rw [ByteArray.size_append]; omega
  replace ht2s := Lib.hid ht2s
  clear hat hs m1 b1 hps hps1 hkl hlt1 hVs hql
  go_region
  obtain ⟨L, hL⟩ : ∃ L : List ByteArray, L = [s, t, t2, t.extract 0 k, t ++ s, ⟨#[91]⟩ ++ s ++ ⟨#[93]⟩, ⟨#[91, 34, 97, 34, 44]⟩ ++ s ++ ⟨#[93]⟩, s ++ ⟨#[46, 48, 46, 49]⟩] := ⟨_, rfl⟩
  have hLs : ∀ (i : Nat) (h : i < L.length), L[i].size ≤ 1900000 := by
    have hts := ht2s.out
    have : ∀ x ∈ L, x.size ≤ 1900000 := by
      rw [hL]
      simp only [List.mem_cons, List.not_mem_nil, or_false]
      rintro x (rfl | rfl | rfl | rfl | rfl | rfl | rfl | rfl)
      · omega
      · omega
      · omega
      · rw [ByteArray.size_extract]; omega
      · rw [ByteArray.size_append]; omega
      · rw [ByteArray.size_append]; omega
      · rw [ByteArray.size_append]; omega
      · rw [ByteArray.size_append]; omega
    exact fun i h => this _ (List.getElem_mem h)
  have hlen : L.length = 8 := by rw [hL]; rfl
  have hW1 : V2.alloc (.cells (L.map Value.string).toArray 9) = V2.alloc (.cells #[.string s, .string t, .string t2, .string (t.extract 0 k), .string (t ++ s), .string (⟨#[91]⟩ ++ s ++ ⟨#[93]⟩), .string (⟨#[91, 34, 97, 34, 44]⟩ ++ s ++ ⟨#[93]⟩), .string (s ++ ⟨#[46, 48, 46, 49]⟩)] 9) := by rw [hL]; rfl
  have hS := strsAt_alloc L V2 9
  have hbW : Below V2.heap.size V2 (V2.alloc (.cells (L.map Value.string).toArray 9)) := (Below.refl _ V2).alloc (Nat.le_refl _) _
  rw [hW1] at hS hbW
  have E1 := E3.below hbW
  have B1 := B3.trans (hbW.mono B3.size)
  clear hW1 hL hbW
  go_wp2
  generalize V2.alloc (.cells #[.string s, .string t, .string t2, .string (t.extract 0 k), .string (t ++ s), .string (⟨#[91]⟩ ++ s ++ ⟨#[93]⟩), .string (⟨#[91, 34, 97, 34, 44]⟩ ++ s ++ ⟨#[93]⟩), .string (s ++ ⟨#[46, 48, 46, 49]⟩)] 9) = W1 at hS E1 B1 ⊢
  obtain ⟨b, off, hbl, hv, hcell⟩ := hS
  rw [hlen] at hv
  obtain ⟨rfl, rfl⟩ : b = V2.heap.size ∧ off = 0 := by
    simp only [Value.slice.injEq, Option.some.injEq, Addr.mk.injEq] at hv
    exact ⟨hv.1.1.symm, hv.1.2.1.symm⟩
  clear hv E3 B3 hcv z1 z2 z3 z4 z5 z6 hsz ht2s hk0 hkt
  go_loopw [58] (fun i wr => ∃ k : Nat, k ≤ 8 ∧ i = .int .i64 k ∧ Below W1.heap.size W1 wr) (fun i _ => 8 - (intOf i).toNat)
  case atStart => exact ⟨0, by omega, rfl, (Below.refl _ _).drew⟩
  case round =>
    obtain ⟨j, hj, rfl, hbw⟩ := hrel
    by_cases hlt : j < 8
    · have hjl : j < L.length := by omega
      have hc1 := cell_below (hcell j hjl) hbw
      rw [Nat.zero_add] at hc1
      have E2 := E1.below hbw
      have hxs := hLs j hjl
      generalize L[j] = u at hc1 hxs
      replace hcell := Lib.hid hcell
      replace hLs := Lib.hid hLs
      replace hlen := Lib.hid hlen
      have h1 := fun (V : World) (hb : Below wr.heap.size wr V) => parseVal_any u V hxs (E2.tabs.below hb)
      have h2 := fun (V : World) (hb : Below wr.heap.size wr V) => refParseVal_any u V hxs (E2.tabs.below hb)
      have hyl := parseR_small u
      replace hyl : (parseR u).1.list.length ≤ 9223372036854775806 := by omega
      generalize (parseR u).1 = y at h1 h2 hyl
      generalize (parseR u).2 = er2 at h1 h2
      replace h1 := Lib.hid h1
      replace h2 := Lib.hid h2
      replace hyl := Lib.hid hyl
      go_upto_region 10 with (fail)
      go_wp2_with (go_at_call 10; refine (h1.out _ (Below.refl _ _)).mono ?_)
      rintro e W5a ⟨⟨a', c', rfl, ht5, _, _⟩, hb5⟩
      have hbn := (Below.refl W5a.heap.size W5a).alloc (Nat.le_refl _) (.cells #[.int .i64 y.kind, .int .i64 y.num, .string y.text, .slice a' (y.list.length : Nat) c'] 29)
      have hb06 := hb5.trans (hbn.mono hb5.size)
      have hn := heap_alloc_new W5a (.cells #[.int .i64 y.kind, .int .i64 y.num, .string y.text, .slice a' (y.list.length : Nat) c'] 29)
      have htn := ht5.texts.below (Nat.le_refl _) hbn
      unfold Val.agg
      go_upto_region 11 with (fail)
      generalize W5a.alloc (.cells #[.int .i64 y.kind, .int .i64 y.num, .string y.text, .slice a' (y.list.length : Nat) c'] 29) = W6 at hb06 hn htn ⊢
      clear hbn ht5
      go_wp2_with (go_at_call 11; refine (h2.out _ hb06).mono ?_)
      rintro e W7 ⟨⟨a2, c2, rfl, ht7, _, _⟩, hb7⟩
      have hbn7 := (Below.refl W7.heap.size W7).alloc (Nat.le_refl _) (.cells #[.int .i64 y.kind, .int .i64 y.num, .string y.text, .slice a2 (y.list.length : Nat) c2] 29)
      have hb68 := hb7.trans (hbn7.mono hb7.size)
      have hn7 := heap_alloc_new W7 (.cells #[.int .i64 y.kind, .int .i64 y.num, .string y.text, .slice a2 (y.list.length : Nat) c2] 29)
      have htn7 := ht7.texts.below (Nat.le_refl _) hbn7
      unfold Val.agg
      go_upto_region 12 with (fail)
      generalize W7.alloc (.cells #[.int .i64 y.kind, .int .i64 y.num, .string y.text, .slice a2 (y.list.length : Nat) c2] 29) = W8 at hb68 hn7 htn7 ⊢
      clear hbn7 ht7 hb7
      have hP6 : W5a.heap.size < W6.heap.size := (Array.getElem?_eq_some_iff.1 hn).1
      have hP5 : W5a.heap.size < W8.heap.size := Nat.lt_of_lt_of_le hP6 hb68.size
      have hP7 : W7.heap.size < W8.heap.size := (Array.getElem?_eq_some_iff.1 hn7).1
      replace hn := (hb68.block _ hP6).trans hn
      have n0 : W8.cell? ⟨W5a.heap.size, 0, none⟩ = some (.int .i64 y.kind) := by rw [Lib.cell_of_heap hn]; rfl
      have n1 : W8.cell? ⟨W5a.heap.size, 1, none⟩ = some (.int .i64 y.num) := by rw [Lib.cell_of_heap hn]; rfl
      have n2 : W8.cell? ⟨W5a.heap.size, 2, none⟩ = some (.string y.text) := by rw [Lib.cell_of_heap hn]; rfl
      have n3 : W8.cell? ⟨W5a.heap.size, 3, none⟩ = some (.slice a' y.list.length c') := by rw [Lib.cell_of_heap hn]; rfl
      have g0 : W8.cell? ⟨W7.heap.size, 0, none⟩ = some (.int .i64 y.kind) := by rw [Lib.cell_of_heap hn7]; rfl
      have g1 : W8.cell? ⟨W7.heap.size, 1, none⟩ = some (.int .i64 y.num) := by rw [Lib.cell_of_heap hn7]; rfl
      have g2 : W8.cell? ⟨W7.heap.size, 2, none⟩ = some (.string y.text) := by rw [Lib.cell_of_heap hn7]; rfl
      have g3 : W8.cell? ⟨W7.heap.size, 3, none⟩ = some (.slice a2 y.list.length c2) := by rw [Lib.cell_of_heap hn7]; rfl
      have hb08 := hb06.trans (hb68.mono hb06.size)
      have htA := htn.below (Nat.le_refl _) hb68
      have hq := refEqual_any y y a' a2 c' c2 W8 hyl.out htA htn7
      rw [eqVr] at hq
      unfold Val.agg at hq
      replace hq := Lib.hid hq
      clear htA htn htn7 hn hn7 h1 h2 hb06 hb68 hP6 hc1 hb5
      go_wp2_with (go_at_call 12; refine hq.out.mono ?_; rintro e W9 ⟨rfl, hb9⟩; have hbr := hbw.trans ((hb08.trans (hb9.mono hb08.size)).mono hbw.size))
      go_roundw
      case rel =>
        (repeat apply Exists.intro)
        exact ⟨⟨j + 1, by omega, by go_num, hbr⟩, rfl⟩
      case measure => simp [intOf]; omega
    · obtain rfl : j = 8 := by omega
      go_wp2
      go_ret
      exact ⟨rfl, B1.trans (hbw.mono B1.size)⟩
end Go.Proofs.YtmijfcdmnibnpaaGreatDoor
