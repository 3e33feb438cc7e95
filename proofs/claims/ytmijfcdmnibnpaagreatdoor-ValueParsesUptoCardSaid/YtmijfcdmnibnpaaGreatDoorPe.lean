/- Contracts: number_any. Contracts: isEscaped_any. Contracts of strings.Builder's writers at this translation (its copyCheck holds a refused statement behind a test that a builder which nobody copied never meets): for a builder that the call itself made. Contracts of strings.Builder.WriteString and WriteRune at this translation: for a builder that the call itself made. Contracts: quote_bad, quote_loop. Contracts: unescape_any. Contracts: unquote_any. Contract of strings.Join at short texts and the separator of a list's source form. Contracts of package value's source form of a value. -/
import Derived.Test.YtmijfcdmnibnpaaGreatDoorProg
import Derived.Test.YtmijfcdmnibnpaaGreatDoorPa
import Derived.Test.YtmijfcdmnibnpaaGreatDoorShelf
import Derived.Lib.ItoaLen
import Derived.Lib.AppendIntMem
import Derived.Shelf.Strings.BuilderRune
import Derived.WalkKit
import Derived.WalkMore
import Derived.Lib.Hide
import Derived.Outline
import Derived.Test.YtmijfcdmnibnpaaGreatDoorPb
import Derived.Test.YtmijfcdmnibnpaaGreatDoorPd
import Derived.BigRegion
import Derived.Deep.RegionWith
import Derived.Deep.DeepFit
import Derived.IntWalk
import Derived.Deep.DeepCutAuto
import Derived.Test.YtmijfcdmnibnpaaGreatDoorPc
/- Contracts: number_any. -/
namespace Go.Proofs.YtmijfcdmnibnpaaGreatDoor
open Go Go.RowKit

/-- The table that strconv reads holds what its text lays. -/
def Pow (w : World) : Prop := Lib.TabIs Tryz.prog w "internal/strconv.uint64pow10" .u64 Lib.pow10Tab
theorem number_any (n : Int) (w : World) (h0 : -9223372036854775808 ≤ n) (h1 : n ≤ 9223372036854775807) (hP : Pow w) :
    Calls Tryz.prog 38 #[.int .i64 n] w fun e w' => e = .returned (.string ⟨(Lib.itoa n).toArray⟩) ∧ Below w.heap.size w w' := by
  go_enter Tryz.func38, Tryz.ntmps38
  go_wp2_with (go_at_call 55; refine (Tryz.strconv_Itoa _ h0 h1 _ hP).mono ?_; rintro e w0 ⟨rfl, k, os, hw⟩)
  go_ret
  refine ⟨rfl, ?_⟩
  subst hw
  exact Lib.below_grow _ _ (Nat.le_refl _) _ _
end Go.Proofs.YtmijfcdmnibnpaaGreatDoor
/- Contracts: isEscaped_any. -/
namespace Go.Proofs.YtmijfcdmnibnpaaGreatDoor
open Go Go.RowKit

theorem isEscaped_any (r : Int) (w : World) : Calls Tryz.prog 58 #[.int .i32 r] w fun e w' => e = .returned (.bool (escB r)) ∧ w = w' := by
  go_enter Tryz.func58, Tryz.ntmps58
  go_wp2
  all_goals
    go_ret
    refine ⟨?_, rfl⟩
    first
      | rfl
      | (unfold escB
         simp_all)
end Go.Proofs.YtmijfcdmnibnpaaGreatDoor
/- Contracts of strings.Builder's writers at this translation (its copyCheck holds a refused statement behind a test that a builder which nobody copied never meets): for a builder that the call itself made. -/
set_option linter.unusedVariables false
namespace Go.Proofs.YtmijfcdmnibnpaaGreatDoor
open Go Go.RowKit Go.Shelf

abbrev XB := Tryz.Builder_Extra_169
set_option maxHeartbeats 1000000 in
set_option maxRecDepth 100000 in
theorem copyCheck_used (b : Nat) (w : World) (h0 : w.cell? ⟨b, 0, none⟩ = some (.pointer (some ⟨b, 0, none⟩))) :
    Calls Tryz.prog 73 #[.pointer (some ⟨b, 0, none⟩)] w fun e w' => e = .returned (.tuple #[]) ∧ w' = w := by
  obtain ⟨j, hj, _⟩ := Option.map_eq_some_iff.1 XB.sizeBuilder
  go_enter Tryz.func73, Tryz.ntmps73
  go_wp2
  rw [Lib.run_neq_ptr_same w _ Tryz.underlying73 hj]
  go_wp2
  go_end0
  exact ⟨rfl, rfl⟩

set_option maxHeartbeats 1000000 in
set_option maxRecDepth 100000 in
theorem copyCheck_fresh (b : Nat) (w : World) (h0 : w.cell? ⟨b, 0, none⟩ = some (.pointer none)) (hsh : w.shape? b = some (75, 2)) (hfz : w.frozen? ⟨b, 0, none⟩ = false) :
    Calls Tryz.prog 73 #[.pointer (some ⟨b, 0, none⟩)] w fun e w' => e = .returned (.tuple #[]) ∧ w' = w.setCell ⟨b, 0, none⟩ (.pointer (some ⟨b, 0, none⟩)) := by
  obtain ⟨j, hj, hjs⟩ := Option.map_eq_some_iff.1 XB.sizeBuilder
  go_enter Tryz.func73, Tryz.ntmps73
  go_wp2
  rw [Lib.run_to_unsafe w ⟨b, 0, none⟩ Tryz.underlying73 Tryz.underlying100 hj (by rw [hjs]; decide) hsh (Nat.zero_lt_succ 1)]
  simp only [Result.andThen]
  rw [Oper.upon_value]
  go_wp2
  rw [run_callFunc_extern Tryz.func83 (by kernel_rfl) (by kernel_rfl) (by kernel_rfl) (e := Extern.AbiNoEscape.same) (by kernel_rfl)]
  rw [Lib.run_noEscape]
  simp only [Result.andThen]
  rw [Oper.upon_value]
  go_wp2
  rw [Lib.run_from_unsafe w ⟨b, 0, none⟩ Tryz.underlying100 Tryz.underlying73 hj hsh XB.liesBuilder]
  simp only [Result.andThen]
  rw [Oper.upon_value]
  go_wp2
  go_end0
  exact ⟨rfl, rfl⟩

/-- A builder of the call's own, whose block is b, holds these cells. -/
abbrev Bld (B b : Nat) (bs : List Value) (w : World) : Prop := Lib.IsBuilderF 75 5 B b bs w
abbrev BldAt (B b : Nat) (bs : List Value) (w : World) : Prop := Lib.BuilderAtF 75 5 B b (.pointer (some ⟨b, 0, none⟩)) bs w

theorem copyCheck_k (B b : Nat) (bs : List Value) (w : World) (h : Bld B b bs w) :
    Calls Tryz.prog 73 #[.pointer (some ⟨b, 0, none⟩)] w fun e w' => e = .returned (.tuple #[]) ∧ (BldAt B b bs w' ∧ Below B w w' ∧ Lib.OthersKept 5 (some b) w w') := by
  rcases h with h | h
  · refine (copyCheck_fresh b w h.cell0 h.shape h.frozen0).mono ?_
    rintro e w' ⟨rfl, rfl⟩
    exact ⟨rfl, h.used _, (Below.refl B w).setCell (p := ⟨b, 0, none⟩) h.1 _, (Lib.OthersKept.refl _ _ w).setCell ⟨b, 0, none⟩ rfl _⟩
  · refine (copyCheck_used b w h.cell0).mono ?_
    rintro e w' ⟨rfl, rfl⟩
    exact ⟨rfl, h, Below.refl B _, Lib.OthersKept.refl _ _ _⟩

set_option maxHeartbeats 2000000 in
set_option maxRecDepth 100000 in
theorem writeByte_k (B b : Nat) (bs : List Value) (c : Int) (w : World) (h : Bld B b bs w) (hlen : bs.length + 1 ≤ 140737488355328) (hBw : B ≤ w.heap.size) :
    Calls Tryz.prog 57 #[.pointer (some ⟨b, 0, none⟩), .int .u8 c] w fun e w' => e = .returned .nilIface ∧ (BldAt B b (bs ++ [.int .u8 c]) w' ∧ Below B w w' ∧ Lib.OthersKept 5 (some b) w w') := by
  obtain ⟨i0, hi, hz0, hz1, hz2⟩ := info_parts XB.infoByte
  go_enter Tryz.func57, Tryz.ntmps57
  go_wp2_with (go_at_call 73; refine (copyCheck_k B b bs _ h).mono ?_)
  rintro e w1 ⟨rfl, h1, hb1, hk1⟩
  obtain ⟨hB, v, hbk, hown, hne⟩ := h1
  have c0 : w1.cell? ⟨b, 0, none⟩ = some (.pointer (some ⟨b, 0, none⟩)) := by rw [Lib.cell_of_heap hbk]; rfl
  have c1 : w1.cell? ⟨b, 1, none⟩ = some v := by rw [Lib.cell_of_heap hbk]; rfl
  go_wp2_with (at_builtin; refine wpList_append_ownF _ rfl _ _ 22 rfl B 5 i0 (.int .u8 0) 1 1 Tryz.underlying22 hi hz0 hz1 hz2 rfl (by decide) _ _ _ rfl (hown.alloc _) ⟨w1.heap.size, 0, none⟩ 1 1 [.int .u8 c] rfl rfl ?c1 ?c2 ?c3 ?c4 ?c5 ?_)
  case c1 =>
    intro j u hj
    match j, hj with
    | 0, hj => simp at hj; subst hj; simp [Addr.add]
  case c2 => intro u hu; simp at hu; subst hu; rfl
  case c3 => unfold maxLen; omega
  case c4 => omega
  case c5 => have := hb1.size; simp; omega
  intro v' w2 hown' hgrow _
  have hlt : b < w1.heap.size := by
    rcases Nat.lt_or_ge b w1.heap.size with h' | h'
    · exact h'
    · simp [Array.getElem?_eq_none h'] at hbk
  have hb2 : w2.heap[b]? = some (.cells #[.pointer (some ⟨b, 0, none⟩), v] 75 (0, 0)) := by
    rw [hgrow.block b (by simp; omega) (fun e => hne e.symm), Lib.alloc_old w1 _ b hlt]
    exact hbk
  have d0 : w2.cell? ⟨b, 0, none⟩ = some (.pointer (some ⟨b, 0, none⟩)) := by rw [Lib.cell_of_heap hb2]; rfl
  have d1 : w2.cell? ⟨b, 1, none⟩ = some v := by rw [Lib.cell_of_heap hb2]; rfl
  have f1 : w2.frozen? ⟨b, 1, none⟩ = false := Lib.frozen_of_heap hb2 1
  obtain ⟨g, cap, rfl⟩ : ∃ g cap, v' = .slice (some ⟨g, 0, none⟩) (bs.length + 1) cap := by
    rcases hown'.2 with ⟨_, h0⟩ | ⟨g, cap, cur, fz, hv, _⟩
    · omega
    · exact ⟨g, cap, hv⟩
  go_wp2
  go_ret
  refine ⟨rfl, ?_, ?_, ((hk1.alloc _).grown hgrow (Lib.ownsRowF_kind (hown.alloc _))).setCell ⟨b, 1, none⟩ rfl _⟩
  · exact Lib.BuilderAtF.put hB hb2 (bs' := bs ++ [.int .u8 c]) (by simpa using hown') (by decide)
  · exact ((hb1.alloc (by have := hb1.size; omega) _).grown hgrow (by have := hb1.size; simp; omega) (fun k hk => (hown.lt k hk).1)).setCell (p := ⟨b, 1, none⟩) hB _
end Go.Proofs.YtmijfcdmnibnpaaGreatDoor
/- Contracts of strings.Builder.WriteString and WriteRune at this translation: for a builder that the call itself made. -/
set_option linter.unusedVariables false
namespace Go.Proofs.YtmijfcdmnibnpaaGreatDoor
open Go Go.RowKit Go.Shelf

set_option maxHeartbeats 2000000 in
set_option maxRecDepth 100000 in
theorem writeString_k (B b : Nat) (bs : List Value) (s : ByteArray) (w : World) (h : Bld B b bs w) (hlen : bs.length + s.size ≤ 140737488355328) (hBw : B ≤ w.heap.size) :
    Calls Tryz.prog 76 #[.pointer (some ⟨b, 0, none⟩), .string s] w fun e w' => e = .returned (.tuple #[.int .i64 s.size, .nilIface]) ∧ (BldAt B b (bs ++ Lib.strCells s) w' ∧ Below B w w' ∧ Lib.OthersKept 5 (some b) w w') := by
  obtain ⟨i0, hi, hz0, hz1, hz2⟩ := info_parts XB.infoByte
  go_enter Tryz.func76, Tryz.ntmps76
  go_wp2_with (go_at_call 73; refine (copyCheck_k B b bs _ h).mono ?_)
  rintro e w1 ⟨rfl, h1, hb1, hk1⟩
  obtain ⟨hB, v, hbk, hown, hne⟩ := h1
  have c0 : w1.cell? ⟨b, 0, none⟩ = some (.pointer (some ⟨b, 0, none⟩)) := by rw [Lib.cell_of_heap hbk]; rfl
  have c1 : w1.cell? ⟨b, 1, none⟩ = some v := by rw [Lib.cell_of_heap hbk]; rfl
  go_wp2_with (at_builtin; refine Lib.wpList_append_own_stringF _ rfl _ _ 22 9 rfl B 5 i0 Tryz.underlying22 Tryz.underlying9 hi hz0 hz1 hz2 _ _ _ rfl hown s rfl ?c3 ?c4 ?c5 ?_)
  case c3 => unfold maxLen; omega
  case c4 => omega
  case c5 => have := hb1.size; omega
  intro v' w2 hown' hgrow _
  have hlt : b < w1.heap.size := by
    rcases Nat.lt_or_ge b w1.heap.size with h' | h'
    · exact h'
    · simp [Array.getElem?_eq_none h'] at hbk
  have hb2 : w2.heap[b]? = some (.cells #[.pointer (some ⟨b, 0, none⟩), v] 75 (0, 0)) := by
    rw [hgrow.block b hlt (fun e => hne e.symm)]
    exact hbk
  have d0 : w2.cell? ⟨b, 0, none⟩ = some (.pointer (some ⟨b, 0, none⟩)) := by rw [Lib.cell_of_heap hb2]; rfl
  have d1 : w2.cell? ⟨b, 1, none⟩ = some v := by rw [Lib.cell_of_heap hb2]; rfl
  have f1 : w2.frozen? ⟨b, 1, none⟩ = false := Lib.frozen_of_heap hb2 1
  obtain ⟨ao, n', cap, rfl⟩ : ∃ ao n' cap, v' = .slice ao n' cap := by
    rcases hown'.2 with ⟨hv, _⟩ | ⟨g, cap, cur, fz, hv, _⟩
    · exact ⟨_, _, _, hv⟩
    · exact ⟨_, _, _, hv⟩
  go_wp2
  go_ret2
  refine ⟨rfl, ?_, ?_, (hk1.grown hgrow (Lib.ownsRowF_kind hown)).setCell ⟨b, 1, none⟩ rfl _⟩
  · exact Lib.BuilderAtF.put hB hb2 (bs' := bs ++ Lib.strCells s) (by simpa [Lib.strCells_length] using hown') (by decide)
  · exact (hb1.grown hgrow (by have := hb1.size; omega) (fun k hk => (hown.lt k hk).1)).setCell (p := ⟨b, 1, none⟩) hB _

/-- The numbers of AppendRune's closure, with the builder's type beside them. -/
def renB : Go.Shelf.Ren := ⟨fun | 242 => 74 | 278 => 84 | n => n, fun | 37 => 22 | 21 => 21 | 51 => 102 | 4 => 4 | 5 => 5 | 46 => 97 | 72 => 75 | n => n, fun | n => n⟩
set_option maxRecDepth 100000 in
theorem extraB : Builder.Extra Tryz.prog renB := { sizeBuilder := XB.sizeBuilder, liesBuilder := XB.liesBuilder, t5 := XB.t5, a5 := XB.a5, z5 := XB.z5, v5 := XB.v5, infoByte := XB.infoByte, cellsByte := XB.cellsByte, sizeByte := XB.sizeByte, neB5 := by decide }
set_option maxRecDepth 100000 in
theorem laysB : Go.Proofs.Lays.n242 Tryz.prog renB := { Tryz.lays242 with }

theorem appendRune_own (B : Nat) (v : Value) (n : Nat) (xs : List Value) (r : Int) (hr0 : -2147483648 ≤ r) (hr1 : r ≤ 2147483647) (w : World) (hown : w.ownsRowF B 5 1 v n xs) (hlen : n + 4 ≤ 140737488355328) (hBw : B ≤ w.heap.size) :
    Calls Tryz.prog 74 #[v, .int .i32 r] w fun e w' => ∃ v', e = .returned v' ∧ w'.ownsRowF B 5 1 v' (n + (Lib.runeCells r).length) (xs ++ Lib.runeCells r) ∧ ∃ o, (w.alloc o).grownBy w' v.ownBlock :=
  Any.utf8_AppendRune_own laysB extraB B v n xs r hr0 hr1 w hown hlen hBw

set_option maxHeartbeats 4000000 in
set_option maxRecDepth 100000 in
theorem writeRune_k (B b : Nat) (bs : List Value) (r : Int) (hr0 : -2147483648 ≤ r) (hr1 : r ≤ 2147483647) (w : World) (h : Bld B b bs w) (hlen : bs.length + 4 ≤ 140737488355328) (hBw : B ≤ w.heap.size) :
    Calls Tryz.prog 59 #[.pointer (some ⟨b, 0, none⟩), .int .i32 r] w fun e w' => e = .returned (.tuple #[.int .i64 (Lib.runeCells r).length, .nilIface]) ∧ (BldAt B b (bs ++ Lib.runeCells r) w' ∧ Below B w w' ∧ Lib.OthersKept 5 (some b) w w') := by
  have hk4 := Lib.runeCells_le r
  go_enter Tryz.func59, Tryz.ntmps59
  go_wp2_with (go_at_call 73; refine (copyCheck_k B b bs _ h).mono ?_)
  rintro e w1 ⟨rfl, h1, hb1, hk1⟩
  obtain ⟨hB, v, hbk, hown, hne⟩ := h1
  obtain ⟨ao, cap, rfl⟩ : ∃ ao cap, v = .slice ao bs.length cap := by
    rcases hown.2 with ⟨hv, h0⟩ | ⟨g, cap, cur, fz, hv, _⟩
    · exact ⟨none, 0, by rw [hv, h0]⟩
    · exact ⟨_, _, hv⟩
  have c0 : w1.cell? ⟨b, 0, none⟩ = some (.pointer (some ⟨b, 0, none⟩)) := by rw [Lib.cell_of_heap hbk]; rfl
  have c1 : w1.cell? ⟨b, 1, none⟩ = some (.slice ao bs.length cap) := by rw [Lib.cell_of_heap hbk]; rfl
  go_wp2_with (go_at_call 74; refine (appendRune_own B _ bs.length bs r hr0 hr1 _ hown hlen (by have := hb1.size; omega)).mono ?_)
  rintro e w2 ⟨v', rfl, hown', o, hgrow⟩
  have hlt : b < w1.heap.size := by
    rcases Nat.lt_or_ge b w1.heap.size with h' | h'
    · exact h'
    · simp [Array.getElem?_eq_none h'] at hbk
  have hb2 : w2.heap[b]? = some (.cells #[.pointer (some ⟨b, 0, none⟩), .slice ao bs.length cap] 75 (0, 0)) := by
    rw [hgrow.block b (by simp; omega) (fun e => hne e.symm), Lib.alloc_old w1 _ b hlt]
    exact hbk
  have d0 : w2.cell? ⟨b, 0, none⟩ = some (.pointer (some ⟨b, 0, none⟩)) := by rw [Lib.cell_of_heap hb2]; rfl
  have d1 : w2.cell? ⟨b, 1, none⟩ = some (.slice ao bs.length cap) := by rw [Lib.cell_of_heap hb2]; rfl
  have f1 : w2.frozen? ⟨b, 1, none⟩ = false := Lib.frozen_of_heap hb2 1
  obtain ⟨g, cap', rfl⟩ : ∃ g cap', v' = .slice (some ⟨g, 0, none⟩) (bs.length + (Lib.runeCells r).length) cap' := by
    rcases hown'.2 with ⟨_, h0⟩ | ⟨g, cap', cur, fz, hv, _⟩
    · omega
    · exact ⟨g, cap', hv⟩
  go_wp2
  go_ret2
  refine ⟨?_, ?_, ?_, ((hk1.alloc _).grown hgrow (Lib.ownsRowF_kind (hown.alloc _))).setCell ⟨b, 1, none⟩ rfl _⟩
  · have e : ((bs.length : Int) + ((Lib.runeCells r).length : Int) - (bs.length : Int)) = ((Lib.runeCells r).length : Int) := by omega
    simp [e]
  · exact Lib.BuilderAtF.put hB hb2 (bs' := bs ++ Lib.runeCells r) (by simpa using hown') (by decide)
  · exact ((hb1.alloc (by have := hb1.size; omega) _).grown hgrow (by have := hb1.size; simp; omega) (fun k hk => (hown.lt k hk).1)).setCell (p := ⟨b, 1, none⟩) hB _

theorem string_k (B b : Nat) (l : List UInt8) (w : World) (h : Bld B b (Lib.byteCells l) w) (hBw : B ≤ w.heap.size) :
    Calls Tryz.prog 60 #[.pointer (some ⟨b, 0, none⟩)] w fun e w' => e = .returned (.string ⟨l.toArray⟩) ∧ (Bld B b (Lib.byteCells l) w' ∧ Below B w w' ∧ Lib.OthersKept 5 (some b) w w') :=
  Tryz.Builder_String_any_k B b l w h hBw
end Go.Proofs.YtmijfcdmnibnpaaGreatDoor
/- Contracts: quote_bad, quote_loop. -/
namespace Go.Proofs.YtmijfcdmnibnpaaGreatDoor
open Go Go.RowKit Go.Shelf

set_option maxHeartbeats 8000000 in
set_option maxRecDepth 100000 in
theorem quote_loop (s : ByteArray) (w : World) (hv : validB s = true) (hT : Tabs w) :
    Calls Tryz.prog 39 #[.string s] w fun e w' => e = .returned (.tuple #[.string ⟨(quoteL s.data.toList).toArray⟩, .int .i64 0]) ∧ Below w.heap.size w w' := by
  have hs : s.size ≤ 200 := by simp only [validB, Bool.and_eq_true, decide_eq_true_eq] at hv; exact hv.1.1
  have hd : Lib.validD s.data.toList = true := by simp only [validB, Bool.and_eq_true] at hv; exact hv.1.2
  replace hd := Lib.hid hd
  go_enter Tryz.func39, Tryz.ntmps39
  go_wp2_with (go_at_call 56; refine (valid_any _ _ (by omega) hT).mono ?_; rintro e w0 ⟨rfl, hb0⟩)
  have hz0 := hb0.size
  have hfresh : Bld w0.heap.size w0.heap.size (Lib.byteCells []) (w0.alloc (.cells #[.pointer none, .slice none 0 0] 75)) := Lib.IsBuilderF.of (Lib.fresh_isBuilder 75 5 w0)
  go_wp2_with (go_at_call 57; refine (writeByte_k w0.heap.size w0.heap.size _ 34 _ hfresh (by simp [Lib.byteCells_length]) (by simp)).mono ?_)
  rintro e w1 ⟨rfl, h1, b1, k1⟩
  have hb1 : Below w.heap.size w w1 := (hb0.alloc hz0 _).trans (b1.mono hz0)
  have hz1 : w0.heap.size + 1 ≤ w1.heap.size := by have := b1.size; simpa using this
  go_wp2
  go_loopw [] (fun wr => ∃ pos : Nat, pos ≤ s.size ∧ Lib.validD (s.data.toList.drop pos) = true ∧ Bld w0.heap.size w0.heap.size (Lib.byteCells (34 :: escL (s.data.toList.take pos))) wr ∧ wr.heap[w1.heap.size]? = some (.stringIter s pos) ∧ Below w.heap.size w wr) (fun wr => s.size - wr.iterPos w1.heap.size)
  case atStart =>
    refine ⟨0, Nat.zero_le _, by simpa using hd.out, (Lib.IsBuilderF.alloc (Or.inr h1) _), ?_, hb1.alloc (by omega) _⟩
    simpa using World.iter_heap w1 s 0
  case round =>
    obtain ⟨pos, hpos, hvd, hI, hit, hbw⟩ := hrel
    have hsz : w1.heap.size < wr.heap.size := (Array.getElem?_eq_some_iff.1 hit).1
    have hmea : wr.iterPos w1.heap.size = pos := by simp only [World.iterPos, hit]
    have hal := escL_length (s.data.toList.take pos)
    have hll : (s.data.toList.take pos).length ≤ pos := List.length_take_le _ _
    by_cases hp : pos < s.size
    · have hnx : ∀ ty, (Instr.next (.pointer (some ⟨w1.heap.size, 0, none⟩)) true ty).run Tryz.prog wr = _ := fun ty => Lib.run_next_any_at wr w1.heap.size s pos ty hit hp
      have hd1 := decode_le s pos
      have hfit := decode_fits s pos hp
      obtain ⟨hno, hnv⟩ := valid_at s pos hp hvd
      have hesc := esc_rune s pos hp hno
      have hI2 := hI.iterAt hit (pos + (Utf8.decode s pos).2)
      have hit2 := Lib.iterAt_heap wr w1.heap.size s pos (pos + (Utf8.decode s pos).2) hit
      have hbw2 := Lib.below_iterAt hbw (k := w1.heap.size) (by omega) s (pos + (Utf8.decode s pos).2)
      have hsz2 : w1.heap.size < (wr.iterAt w1.heap.size s (pos + (Utf8.decode s pos).2)).heap.size := by rw [Lib.iterAt_size]; exact hsz
      have hes := escB_rune s pos hp
      clear hno
      generalize (Utf8.decode s pos).1 = r at hnx hd1 hesc hes
      generalize (Utf8.decode s pos).2 = wd at hnx hfit hit2 hbw2 hnv hesc hI2 hsz2
      generalize hW1 : wr.iterAt w1.heap.size s (pos + wd) = W1 at hit2 hbw2 hnx hI2 hsz2
      replace hW1 := Lib.hid hW1
      replace hit := Lib.hid hit
      replace hmea := Lib.hid hmea
      replace hvd := Lib.hid hvd
      replace hnv := Lib.hid hnv
      replace hesc := Lib.hid hesc
      replace hit2 := Lib.hid hit2
      cases hb : isEsc (s.get! pos) with
      | true =>
        rw [hb] at hes
        have hesc' := hesc.out
        rw [hb, if_pos rfl] at hesc'
        replace hesc' := Lib.hid hesc'
        replace hb := Lib.hid hb
        go_wp2_with (first
          | (go_at_call 58; refine (isEscaped_any _ _).mono ?_; rintro e w' ⟨rfl, rfl⟩)
          | (go_at_call 57; refine (writeByte_k w0.heap.size w0.heap.size _ 92 _ hI2 (by rw [Lib.byteCells_length]; simp; omega) (by omega)).mono ?_; rintro e W2 ⟨rfl, h2, b2, k2⟩))
        have hz2 := b2.size
        go_wp2_with (go_at_call 59; refine (writeRune_k w0.heap.size w0.heap.size _ _ (by omega) (by omega) _ (Or.inr h2) (by rw [List.length_append, Lib.byteCells_length]; simp; omega) (by omega)).mono ?_; rintro e W3 ⟨rfl, h3, b3, k3⟩)
        have hit3 := k3.iter (k2.iter hit2.out (by omega)) (by omega)
        go_wp2
        go_roundw
        case rel =>
          refine ⟨pos + wd, hfit.2, hnv.out, ?_, hit3, (hbw2.trans (b2.mono hz0)).trans (b3.mono hz0)⟩
          rw [hesc'.out]
          have e1 : Lib.byteCells (34 :: (escL (s.data.toList.take pos) ++ ([92] ++ Lib.encodeRune (r : Nat)))) = Lib.byteCells (34 :: escL (s.data.toList.take pos)) ++ [Value.int .u8 92] ++ Lib.runeCells (r : Nat) := by
            rw [← Lib.byteCells_encodeRune, ← List.cons_append, Lib.byteCells_append, Lib.byteCells_append, ← List.append_assoc]
            rfl
          rw [e1]
          exact Or.inr h3
        case measure =>
          rw [hmea.out]
          simp only [World.iterPos, hit3]
          omega
      | false =>
        rw [hb] at hes
        have hesc' := hesc.out
        rw [hb, if_neg (by simp), List.nil_append] at hesc'
        replace hesc' := Lib.hid hesc'
        replace hb := Lib.hid hb
        go_wp2_with (first
          | (go_at_call 58; refine (isEscaped_any _ _).mono ?_; rintro e w' ⟨rfl, rfl⟩)
          | (go_at_call 59; refine (writeRune_k w0.heap.size w0.heap.size _ _ (by omega) (by omega) _ hI2 (by rw [Lib.byteCells_length]; simp; omega) (by omega)).mono ?_; rintro e W3 ⟨rfl, h3, b3, k3⟩))
        have hit3 := k3.iter hit2.out (by omega)
        go_wp2
        go_roundw
        case rel =>
          refine ⟨pos + wd, hfit.2, hnv.out, ?_, hit3, hbw2.trans (b3.mono hz0)⟩
          rw [hesc'.out]
          have e1 : Lib.byteCells (34 :: (escL (s.data.toList.take pos) ++ Lib.encodeRune (r : Nat))) = Lib.byteCells (34 :: escL (s.data.toList.take pos)) ++ Lib.runeCells (r : Nat) := by
            rw [← Lib.byteCells_encodeRune, ← List.cons_append, Lib.byteCells_append]
          rw [e1]
          exact Or.inr h3
        case measure =>
          rw [hmea.out]
          simp only [World.iterPos, hit3]
          omega
    · obtain rfl : pos = s.size := by omega
      have hnx : ∀ ty, (Instr.next (.pointer (some ⟨w1.heap.size, 0, none⟩)) true ty).run Tryz.prog wr = _ := fun ty => Lib.run_next_end_at wr w1.heap.size s s.size ty hit hp
      replace hit := Lib.hid hit
      replace hmea := Lib.hid hmea
      replace hvd := Lib.hid hvd
      have hfull : s.data.toList.take s.size = s.data.toList := List.take_of_length_le (Nat.le_refl _)
      rw [hfull] at hI hal
      have hln : s.data.toList.length = s.size := rfl
      replace hfull := Lib.hid hfull
      go_wp2_with (first
        | (go_at_call 57; refine (writeByte_k w0.heap.size w0.heap.size _ 34 _ hI (by rw [Lib.byteCells_length]; simp; omega) (by omega)).mono ?_; rintro e W2 ⟨rfl, h2, b2, k2⟩))
      have hz2 := b2.size
      have e2 : Lib.byteCells (34 :: escL s.data.toList) ++ [Value.int .u8 34] = Lib.byteCells (quoteL s.data.toList) := by
        unfold quoteL
        rw [← List.cons_append, Lib.byteCells_append]
        rfl
      rw [e2] at h2
      replace e2 := Lib.hid e2
      go_wp2_with (go_at_call 60; refine (string_k w0.heap.size w0.heap.size _ _ (Or.inr h2) (by omega)).mono ?_; rintro e W3 ⟨rfl, h3, b3, k3⟩)
      go_ret2
      exact ⟨rfl, (hbw.trans (b2.mono hz0)).trans (b3.mono hz0)⟩

theorem quote_bad (s : ByteArray) (w : World) (hm : s.size ≤ 9223372036854775807) (hv : validB s = false) (hT : Tabs w) :
    Calls Tryz.prog 39 #[.string s] w fun e w' => e = .returned (.tuple #[.string ⟨#[]⟩, .int .i64 2]) ∧ Below w.heap.size w w' := by
  go_enter Tryz.func39, Tryz.ntmps39
  go_wp2_with (go_at_call 56; refine (valid_any _ _ hm hT).mono ?_; rintro e w0 ⟨rfl, hb0⟩)
  go_ret2
  exact ⟨rfl, hb0⟩
end Go.Proofs.YtmijfcdmnibnpaaGreatDoor
/- Contracts: unescape_any. -/
namespace Go.Proofs.YtmijfcdmnibnpaaGreatDoor
open Go Go.RowKit

/-- What the loop holds: the builder's bytes, from where on the rest is still to be copied, and whether a backslash is open. -/
def UnRel (s : ByteArray) (R : Option (List UInt8)) (B I : Nat) (fr op ft : Value) (w wr : World) : Prop :=
  ∃ (pos from' : Nat) (open' : Bool) (acc : List UInt8), pos ≤ s.size ∧ from' ≤ pos ∧ (open' = true → from' = pos) ∧ fr = .int .i64 from' ∧ op = .bool open' ∧ ft = .bool true ∧
    unS (s.data.toList.drop pos) open' (acc ++ (s.data.toList.take pos).drop from') = R ∧ acc.length ≤ from' ∧ Bld B B (Lib.byteCells acc) wr ∧ wr.heap[I]? = some (.stringIter s pos) ∧ Below B w wr

set_option maxHeartbeats 8000000 in
set_option maxRecDepth 100000 in
theorem unescape_any (s : ByteArray) (w : World) (hs : s.size ≤ 140737488355328) :
    Calls Tryz.prog 67 #[.string s] w fun e w' => e = .returned (unescV (unS s.data.toList false [])) ∧ Below w.heap.size w w' := by
  obtain ⟨R, hR⟩ : ∃ R, unS s.data.toList false [] = R := ⟨_, rfl⟩
  rw [hR]
  replace hR := Lib.hid hR
  have hfresh : Bld w.heap.size w.heap.size (Lib.byteCells []) (w.alloc (.cells #[.pointer none, .slice none 0 0] 75)) := Lib.IsBuilderF.of (Lib.fresh_isBuilder 75 5 w)
  go_enter Tryz.func67, Tryz.ntmps67
  go_wp2
  go_step3
  go_wp2
  go_step3
  go_wp2
  go_loopw [5, 6, 7] (fun fr op ft wr => UnRel s R w.heap.size (w.heap.size + 1) fr op ft w wr) (fun _ _ _ wr => s.size - wr.iterPos (w.heap.size + 1))
  case atStart =>
    refine ⟨0, 0, false, [], Nat.zero_le _, Nat.le_refl _, (fun h => (by cases h)), rfl, rfl, rfl, by simpa using hR.out, by simp, hfresh.alloc _, ?_, ((Below.refl _ w).alloc (Nat.le_refl _) _).alloc (by simp) _⟩
    simpa using World.iter_heap (w.alloc (.cells #[.pointer none, .slice none 0 0] 75)) s 0
  case round =>
    obtain ⟨pos, fr, op, acc, hpos, hfp, hop, rfl, rfl, rfl, hun, hacc, hI, hit, hbw⟩ := hrel
    have hsz : w.heap.size + 1 < wr.heap.size := (Array.getElem?_eq_some_iff.1 hit).1
    have hmea : wr.iterPos (w.heap.size + 1) = pos := by simp only [World.iterPos, hit]
    by_cases hp : pos < s.size
    · have hnx : ∀ ty, (Instr.next (.pointer (some ⟨w.heap.size + 1, 0, none⟩)) true ty).run Tryz.prog wr = _ := fun ty => Lib.run_next_any_at wr (w.heap.size + 1) s pos ty hit hp
      have hd1 := decode_le s pos
      have hfit := decode_fits s pos hp
      have hI2 := hI.iterAt hit (pos + (Utf8.decode s pos).2)
      have hit2 := Lib.iterAt_heap wr (w.heap.size + 1) s pos (pos + (Utf8.decode s pos).2) hit
      have hbw2 := Lib.below_iterAt hbw (k := w.heap.size + 1) (by omega) s (pos + (Utf8.decode s pos).2)
      have hsz2 : w.heap.size + 1 < (wr.iterAt (w.heap.size + 1) s (pos + (Utf8.decode s pos).2)).heap.size := by rw [Lib.iterAt_size]; exact hsz
      have hes := escB_rune s pos hp
      have hat := drop_at s pos hp
      have h34 := rune_is s pos hp 34 (by omega)
      have h92 := rune_is s pos hp 92 (by omega)
      have hrp := rune_plain s pos hp
      have hew := esc_width s pos hp
      have hmid := mid_snoc s.data.toList fr pos (Utf8.decode s pos).2 hfp
      have hmid1 := mid_snoc s.data.toList fr pos 1 hfp
      rw [hat, List.take_succ_cons, List.take_zero] at hmid1
      cases hc : isEsc (s.get! pos) with
      | true =>
        have hwd := hew hc
        rw [hwd] at hnx hfit hI2 hit2 hbw2 hsz2 hmid
        rw [hc] at hes
        clear hew hrp hmid
        cases op with
        | true =>
          obtain rfl : fr = pos := hop rfl
          rw [hat, unS, if_pos hc, List.append_assoc, ← hmid1] at hun
          generalize (Utf8.decode s fr).1 = r at hnx hd1 hes h34 h92
          generalize hW1 : wr.iterAt (w.heap.size + 1) s (fr + 1) = W1 at hit2 hbw2 hnx hI2 hsz2
          replace hW1 := Lib.hid hW1
          replace hit := Lib.hid hit
          replace hmea := Lib.hid hmea
          replace hun := Lib.hid hun
          replace hat := Lib.hid hat
          replace hmid1 := Lib.hid hmid1
          replace hc := Lib.hid hc
          replace hwd := Lib.hid hwd
          replace hit2 := Lib.hid hit2
          clear h34 h92 hop
          go_wp2_with (go_at_call 58; refine (isEscaped_any _ _).mono ?_; rintro e w' ⟨rfl, rfl⟩)
          go_roundw
          case rel => exact ⟨fr + 1, fr, false, acc, hfit.2, by omega, fun h => (by cases h), rfl, rfl, rfl, hun.out, hacc, hI2, hit2.out, hbw2⟩
          case measure => rw [hmea.out]; simp only [World.iterPos, hit2.out]; omega
        | false =>
          generalize (Utf8.decode s pos).1 = r at hnx hd1 hes h34 h92
          generalize hW1 : wr.iterAt (w.heap.size + 1) s (pos + 1) = W1 at hit2 hbw2 hnx hI2 hsz2
          replace hW1 := Lib.hid hW1
          replace hit := Lib.hid hit
          replace hmea := Lib.hid hmea
          replace hmid1 := Lib.hid hmid1
          replace hwd := Lib.hid hwd
          replace hit2 := Lib.hid hit2
          have hcc : s.get! pos = 34 ∨ s.get! pos = 92 := by simpa [isEsc] using hc
          replace hc := Lib.hid hc
          clear hop
          rcases hcc with hcc | hcc
          · rw [hat, unS, if_pos hcc] at hun
            have hr : r = 34 := h34.2 (by rw [hcc]; rfl)
            subst hr
            subst hun
            replace hat := Lib.hid hat
            replace hcc := Lib.hid hcc
            clear h34 h92
            go_wp2
            try rw [Exit.noGoto_ret]
            go_ret2
            exact ⟨rfl, hbw2⟩
          · have hne : ¬ s.get! pos = 34 := by rw [hcc]; decide
            rw [hat, unS, if_neg hne, if_pos hcc] at hun
            have hr : r = 92 := h92.2 (by rw [hcc]; rfl)
            subst hr
            replace hat := Lib.hid hat
            replace hcc := Lib.hid hcc
            replace hun := Lib.hid hun
            replace hne := Lib.hid hne
            clear h34 h92
            have hsx : (s.extract fr pos).size = pos - fr := by rw [ByteArray.size_extract]; omega
            replace hsx := Lib.hid hsx
            go_wp2_with (go_at_call 76; refine (writeString_k w.heap.size w.heap.size _ _ _ hI2 (by rw [Lib.byteCells_length, hsx.out]; omega) (by omega)).mono ?_; rintro e W2 ⟨rfl, h2, b2, k2⟩)
            have hit3 := k2.iter hit2.out (by omega)
            have e1 : Lib.byteCells acc ++ Lib.strCells (s.extract fr pos) = Lib.byteCells (acc ++ (s.data.toList.take pos).drop fr) := by
              rw [Lib.byteCells_append]
              congr 1
              show Lib.byteCells (s.extract fr pos).data.toList = _
              rw [Lib.extract_data, List.drop_take]
            rw [e1] at h2
            replace e1 := Lib.hid e1
            go_wp2
            go_roundw
            case rel =>
              refine ⟨pos + 1, pos + 1, true, acc ++ (s.data.toList.take pos).drop fr, hfit.2, Nat.le_refl _, (fun _ => rfl), by go_num, rfl, rfl, ?_, ?_, Or.inr h2, hit3, hbw2.trans b2⟩
              · rw [List.drop_eq_nil_of_le (show (s.data.toList.take (pos + 1)).length ≤ pos + 1 from List.length_take_le _ _), List.append_nil]
                exact hun.out
              · have := List.length_take_le pos s.data.toList
                rw [List.length_append, List.length_drop]
                omega
            case measure => rw [hmea.out]; simp only [World.iterPos, hit3]; omega
      | false =>
        rw [hc] at hes
        have hn34 : ¬ (Utf8.decode s pos).1 = 34 := fun e => by
          have := h34.1 e
          rw [show s.get! pos = 34 from UInt8.toNat_inj.1 this] at hc
          cases hc
        have hn92 : ¬ (Utf8.decode s pos).1 = 92 := fun e => by
          have := h92.1 e
          rw [show s.get! pos = 92 from UInt8.toNat_inj.1 this] at hc
          cases hc
        have hpl := hrp hc
        clear h34 h92 hew hmid1 hrp
        cases op with
        | true =>
          rw [hat, unS, if_neg (by rw [hc]; simp)] at hun
          subst hun
          generalize (Utf8.decode s pos).2 = wd at hnx hfit hI2 hit2 hbw2 hsz2 hmid hpl
          generalize (Utf8.decode s pos).1 = r at hnx hd1 hes hn34 hn92
          generalize hW1 : wr.iterAt (w.heap.size + 1) s (pos + wd) = W1 at hit2 hbw2 hnx hI2 hsz2
          replace hW1 := Lib.hid hW1
          replace hit := Lib.hid hit
          replace hmea := Lib.hid hmea
          replace hmid := Lib.hid hmid
          replace hit2 := Lib.hid hit2
          replace hat := Lib.hid hat
          replace hc := Lib.hid hc
          replace hpl := Lib.hid hpl
          replace hn34 := Lib.hid hn34
          replace hn92 := Lib.hid hn92
          clear hop
          go_wp2_with (go_at_call 58; refine (isEscaped_any _ _).mono ?_; rintro e w' ⟨rfl, rfl⟩)
          try rw [Exit.noGoto_ret]
          go_ret2
          exact ⟨rfl, hbw2⟩
        | false =>
          have hst := unS_plain (Utf8.decode s pos).2 (s.data.toList.drop pos) (acc ++ (s.data.toList.take pos).drop fr) (by rw [List.length_drop]; have : s.data.toList.length = s.size := rfl; omega) hpl
          rw [List.drop_drop, List.append_assoc, ← hmid] at hst
          rw [hst] at hun
          clear hst
          generalize (Utf8.decode s pos).2 = wd at hnx hfit hI2 hit2 hbw2 hsz2 hmid hpl hun
          generalize (Utf8.decode s pos).1 = r at hnx hd1 hes hn34 hn92
          generalize hW1 : wr.iterAt (w.heap.size + 1) s (pos + wd) = W1 at hit2 hbw2 hnx hI2 hsz2
          replace hW1 := Lib.hid hW1
          replace hit := Lib.hid hit
          replace hmea := Lib.hid hmea
          replace hmid := Lib.hid hmid
          replace hit2 := Lib.hid hit2
          replace hat := Lib.hid hat
          replace hc := Lib.hid hc
          replace hpl := Lib.hid hpl
          replace hun := Lib.hid hun
          have hb34 : ((r : Int) == 34) = false := by simp; omega
          have hb92 : ((r : Int) == 92) = false := by simp; omega
          replace hn34 := Lib.hid hn34
          replace hn92 := Lib.hid hn92
          clear hop
          go_wp2
          go_roundw
          case rel => exact ⟨pos + wd, fr, false, acc, hfit.2, by omega, (fun h => (by cases h)), rfl, rfl, rfl, hun.out, hacc, hI2, hit2.out, hbw2⟩
          case measure => rw [hmea.out]; simp only [World.iterPos, hit2.out]; omega
    · obtain rfl : pos = s.size := by omega
      have hnx : ∀ ty, (Instr.next (.pointer (some ⟨w.heap.size + 1, 0, none⟩)) true ty).run Tryz.prog wr = _ := fun ty => Lib.run_next_end_at wr (w.heap.size + 1) s s.size ty hit hp
      replace hit := Lib.hid hit
      replace hmea := Lib.hid hmea
      rw [take_all, List.drop_eq_nil_of_le (show s.data.toList.length ≤ s.size from Nat.le_refl _)] at hun
      cases op with
      | true =>
        rw [unS] at hun
        subst hun
        replace hop := Lib.hid hop
        go_wp2
        try rw [Exit.noGoto_ret]
        go_ret2
        exact ⟨rfl, hbw⟩
      | false =>
        rw [unS] at hun
        subst hun
        clear hop
        have hsx : (s.extract fr s.size).size = s.size - fr := by rw [ByteArray.size_extract]; omega
        replace hsx := Lib.hid hsx
        go_wp2_with (go_at_call 76; refine (writeString_k w.heap.size w.heap.size _ _ _ hI (by rw [Lib.byteCells_length, hsx.out]; omega) (by omega)).mono ?_; rintro e W2 ⟨rfl, h2, b2, k2⟩)
        have e1 : Lib.byteCells acc ++ Lib.strCells (s.extract fr s.size) = Lib.byteCells (acc ++ s.data.toList.drop fr) := by
          rw [Lib.byteCells_append]
          congr 1
          show Lib.byteCells (s.extract fr s.size).data.toList = _
          rw [Lib.extract_data, List.take_of_length_le (by rw [List.length_drop]; have : s.data.toList.length = s.size := rfl; omega)]
        rw [e1] at h2
        replace e1 := Lib.hid e1
        have hz2 := b2.size
        go_wp2_with (go_at_call 60; refine (string_k w.heap.size w.heap.size _ _ (Or.inr h2) (by omega)).mono ?_; rintro e W3 ⟨rfl, h3, b3, k3⟩)
        try rw [Exit.noGoto_ret]
        go_ret2
        exact ⟨rfl, (hbw.trans b2).trans b3⟩
end Go.Proofs.YtmijfcdmnibnpaaGreatDoor
/- Contracts: unquote_any. -/
namespace Go.Proofs.YtmijfcdmnibnpaaGreatDoor
open Go Go.RowKit

set_option maxHeartbeats 4000000 in
theorem unquote_any (s : ByteArray) (w : World) (hs : s.size ≤ 140737488355328) (hT : Tabs w) :
    Calls Tryz.prog 46 #[.string s] w fun e w' => e = .returned (unqV s) ∧ Below w.heap.size w w' := by
  by_cases h2 : 2 ≤ s.size
  · have e0 := ne34 s 0 (by omega)
    have e1 := ne34 s (s.size - 1) (by omega)
    by_cases h0 : s.get! 0 = 34
    · by_cases h1 : s.get! (s.size - 1) = 34
      · have hv := Lib.hid (unqV_in ⟨h2, h0, h1⟩)
        rw [decide_eq_false (fun h => h h0)] at e0
        rw [decide_eq_false (fun h => h h1)] at e1
        replace h0 := Lib.hid h0
        replace h1 := Lib.hid h1
        have b1 : (1 : Int) ≤ (s.size : Int) - 1 := by omega
        have b2 : (s.size : Int) - 1 ≤ (s.size : Int) := by omega
        go_enter Tryz.func46, Tryz.ntmps46
        have hx : (s.extract 1 (s.size - 1)).data.toList = inner s := by
          rw [Lib.extract_data, show s.size - 1 - 1 = s.size - 2 by omega]
          rfl
        have hxs : (s.extract 1 (s.size - 1)).size ≤ 140737488355328 := by rw [ByteArray.size_extract]; omega
        have hu := unescape_any (s.extract 1 (s.size - 1)) w hxs
        rw [hx] at hu
        clear hx hxs
        have hil : (inner s).length ≤ 140737488355328 := by
          unfold inner
          have : s.data.toList.length = s.size := rfl
          rw [List.length_take, List.length_drop]
          omega
        cases hr : unS (inner s) false [] with
        | none =>
          rw [hr] at hu hv
          replace hr := Lib.hid hr
          replace hu : Calls Tryz.prog 67 #[.string (s.extract 1 (s.size - 1))] w fun e w' => e = .returned (.tuple #[.string ⟨#[]⟩, .bool false]) ∧ Below w.heap.size w w' := hu
          go_wp2_with (go_at_call 67; refine hu.mono ?_; rintro e w1 ⟨rfl, hb1⟩)
          go_ret2
          refine ⟨ret_v ?_, hb1⟩
          rw [hv.out]
          rfl
        | some o =>
          rw [hr] at hu hv
          have hol : o.length ≤ 140737488355328 := by
            have := unS_length (inner s) false [] o hr
            simp at this
            omega
          replace hr := Lib.hid hr
          replace hu : Calls Tryz.prog 67 #[.string (s.extract 1 (s.size - 1))] w fun e w' => e = .returned (.tuple #[.string ⟨o.toArray⟩, .bool true]) ∧ Below w.heap.size w w' := hu
          have hosz : (⟨o.toArray⟩ : ByteArray).size ≤ 9223372036854775807 := by show o.toArray.size ≤ _; simp; omega
          cases hvd : validB ⟨o.toArray⟩ with
          | true =>
            go_wp2_with (first
              | (go_at_call 67; refine hu.mono ?_; rintro e w1 ⟨rfl, hb1⟩)
              | (go_at_call 56; refine (valid_any _ _ hosz (hT.below hb1)).mono ?_; rintro e w2 ⟨rfl, hb2⟩))
            go_ret2
            refine ⟨ret_v ?_, hb1.trans (hb2.mono hb1.size)⟩
            rw [hv.out, unqIn, if_pos hvd]
            rfl
          | false =>
            go_wp2_with (first
              | (go_at_call 67; refine hu.mono ?_; rintro e w1 ⟨rfl, hb1⟩)
              | (go_at_call 56; refine (valid_any _ _ hosz (hT.below hb1)).mono ?_; rintro e w2 ⟨rfl, hb2⟩))
            go_ret2
            refine ⟨ret_v ?_, hb1.trans (hb2.mono hb1.size)⟩
            rw [hv.out, unqIn, if_neg (by rw [hvd]; simp)]
            rfl
      · have hv := Lib.hid (unqV_bad fun h => h1 h.2.2)
        rw [decide_eq_false (fun h => h h0)] at e0
        rw [decide_eq_true h1] at e1
        replace h0 := Lib.hid h0
        replace h1 := Lib.hid h1
        go_enter Tryz.func46, Tryz.ntmps46
        go_wp2
        go_ret2
        refine ⟨ret_v ?_, Below.refl _ _⟩
        rw [hv.out]
        rfl
    · have hv := Lib.hid (unqV_bad fun h => h0 h.2.1)
      rw [decide_eq_true h0] at e0
      replace h0 := Lib.hid h0
      clear e1
      go_enter Tryz.func46, Tryz.ntmps46
      go_wp2
      go_ret2
      refine ⟨ret_v ?_, Below.refl _ _⟩
      rw [hv.out]
      rfl
  · have hv := Lib.hid (unqV_bad fun h => h2 h.1)
    have h2' : (s.size : Int) < 2 := by omega
    clear h2
    go_enter Tryz.func46, Tryz.ntmps46
    go_wp2
    go_ret2
    refine ⟨ret_v ?_, Below.refl _ _⟩
    rw [hv.out]
    rfl
end Go.Proofs.YtmijfcdmnibnpaaGreatDoor
/- Contract of strings.Join at short texts and the separator of a list's source form. -/
namespace Go.Proofs.YtmijfcdmnibnpaaGreatDoor
open Go Go.RowKit Go.Shelf

/-- The first k texts, separated. -/
def joinU (xs : List ByteArray) : Nat → List UInt8
  | 0 => []
  | k + 1 => (if k = 0 then [] else joinU xs k ++ [44, 32]) ++ (xs.getD k ByteArray.empty).data.toList
theorem joinU_size (xs : List ByteArray) (hx : ∀ s ∈ xs, s.size ≤ 402) : ∀ k, k ≤ xs.length → (joinU xs k).length ≤ 404 * k
  | 0, _ => by simp [joinU]
  | k + 1, h => by
    have ih := joinU_size xs hx k (by omega)
    have hg : (xs.getD k ByteArray.empty).data.toList.length ≤ 402 := by
      have h1 : xs.getD k ByteArray.empty = xs[k]'(by omega) := by simp [List.getD, show k < xs.length by omega]
      rw [h1]
      exact hx _ (List.getElem_mem _)
    unfold joinU
    rw [List.length_append]
    split
    · simp only [List.length_nil]; omega
    · rw [List.length_append]
      simp only [List.length_cons, List.length_nil]
      omega
set_option maxHeartbeats 8000000 in
set_option maxRecDepth 100000 in
theorem join_any (bk cap : Nat) (xs : List ByteArray) (w : World) (h20 : xs.length ≤ 20) (hx : ∀ s ∈ xs, s.size ≤ 402) (hcap : xs.length ≤ cap)
    (hc : ∀ i (h : i < xs.length), w.cell? ⟨bk, i, none⟩ = some (.string xs[i])) (hbk : bk < w.heap.size) :
    Calls Tryz.prog 61 #[.slice (some ⟨bk, 0, none⟩) xs.length cap, .string ⟨#[44, 32]⟩] w fun e w' => e = .returned (.string ⟨(joinU xs xs.length).toArray⟩) ∧ Below w.heap.size w w' := by
  obtain ⟨m, hm⟩ : ∃ m, xs.length = m := ⟨_, rfl⟩
  rw [hm] at h20 hcap ⊢
  by_cases h0 : m = 0
  · subst h0
    go_enter Tryz.func61, Tryz.ntmps61
    go_wp2
    go_ret
    exact ⟨rfl, Below.refl _ _⟩
  · by_cases h1 : m = 1
    · subst h1
      have c0 := hc 0 (by omega)
      have hj : joinU xs 1 = (xs[0]'(by omega)).data.toList := by
        simp [joinU, show 0 < xs.length by omega]
      rw [hj]
      replace hc := Lib.hid hc
      obtain ⟨s, hs⟩ : ∃ s, xs[0]'(by omega) = s := ⟨_, rfl⟩
      rw [hs] at c0 ⊢
      replace hs := Lib.hid hs
      have he : (⟨s.data.toList.toArray⟩ : ByteArray) = s := eta s
      rw [he]
      replace he := Lib.hid he
      clear hj
      go_enter Tryz.func61, Tryz.ntmps61
      go_wp2
      go_ret
      exact ⟨rfl, Below.refl _ _⟩
    · have h2 : 2 ≤ m := by omega
      have h2' : (2 : Int) ≤ (m : Int) := by omega
      have h20' : (m : Int) ≤ 20 := by omega
      have hne0 : ((m : Int) == 0) = false := by rw [beq_eq_false_iff_ne]; omega
      have hne1 : ((m : Int) == 1) = false := by rw [beq_eq_false_iff_ne]; omega
      have hd0 : ¬ (m : Int) - 1 = 0 := by omega
      obtain ⟨q, hq⟩ : ∃ q, (9223372036854775807 : Int).tdiv ((m : Int) - 1) = q := ⟨_, rfl⟩
      have hq2 : 100 ≤ q := by
        rw [← hq, Int.tdiv_eq_ediv_of_nonneg (by omega)]
        exact Int.le_ediv_of_mul_le (by omega) (by omega)
      have hq3 : q ≤ 9223372036854775807 := by
        rw [← hq, Int.tdiv_eq_ediv_of_nonneg (by omega)]
        exact Int.ediv_le_self _ (by omega)
      clear h0 h1
      replace hc := Lib.hid hc
      replace hx := Lib.hid hx
      go_enter Tryz.func61, Tryz.ntmps61
      go_wp2
      go_loop [5, 7, 41] (fun a _ i => ∃ (k T : Nat), k ≤ m ∧ T ≤ 40 + 402 * k ∧ a = .int .i64 T ∧ i = .int .i64 k) (fun _ _ i => m - (intOf i).toNat)
      case atStart => exact ⟨0, (2 * (m - 1)), by omega, by omega, by go_num, rfl⟩
      case round =>
        obtain ⟨k, T, hk, hT, rfl, rfl⟩ := hrel
        by_cases hlt : k < m
        · have hlt' : (k : Int) < (m : Int) := by omega
          have c0 := hc.out k (by omega)
          have hz := hx.out _ (List.getElem_mem (show k < xs.length by omega))
          obtain ⟨s, hs⟩ : ∃ s, xs[k]'(by omega) = s := ⟨_, rfl⟩
          rw [hs] at c0 hz
          replace hs := Lib.hid hs
          have hz' : (s.size : Int) ≤ 402 := by omega
          have hT' : (T : Int) ≤ 10000 := by omega
          clear hq hq2 hq3
          go_wp2
          go_round
          case rel => exact ⟨k + 1, T + s.size, by omega, by omega, by go_num, by go_num⟩
          case measure => simp [intOf]; omega
        · obtain rfl : k = m := by omega
          have hlt' : ¬ (k : Int) < (k : Int) := by omega
          have hT1 : T ≤ 10000 := by omega
          clear hq hq2 hq3 hT hk
          have c0 := hc.out 0 (by omega)
          have hz := hx.out _ (List.getElem_mem (show 0 < xs.length by omega))
          have hfresh : (w.alloc (.cells #[.pointer none, .slice none 0 0] 75)).heap[w.heap.size]? = some (.cells #[.pointer none, .slice none 0 0] 75 (0, 0)) := heap_alloc_new w _
          have hgr := Lib.hid (Tryz.Builder_Grow_fresh w.heap.size w.heap.size T (w.alloc (.cells #[.pointer none, .slice none 0 0] 75)) (Nat.le_refl _) hfresh (by simp) (by omega))
          have hb0 : Below w.heap.size w (w.alloc (.cells #[.pointer none, .slice none 0 0] 75)) := (Below.refl _ w).alloc (Nat.le_refl _) _
          obtain ⟨s, hs⟩ : ∃ s, xs[0]'(by omega) = s := ⟨_, rfl⟩
          rw [hs] at c0 hz
          have hj1 : Lib.byteCells (joinU xs 1) = [] ++ Lib.strCells s := by
            have : xs.getD 0 ByteArray.empty = s := by rw [← hs]; simp [List.getD, show 0 < xs.length by omega]
            show Lib.byteCells ([] ++ (xs.getD 0 ByteArray.empty).data.toList) = _
            rw [this, List.nil_append]
            rfl
          replace hs := Lib.hid hs
          replace hj1 := Lib.hid hj1
          have hm1 : (1 : Int) ≤ (k : Int) := by omega
          have hkc : (k : Int) ≤ (cap : Int) := by omega
          go_wp2_with (first
            | (go_at_call 75; refine hgr.out.mono ?_; rintro e w1 ⟨rfl, h1, b1⟩; have hb1 := hb0.trans b1; have c1 := (hb1.cell (p := ⟨bk, 0, none⟩) hbk).trans c0)
            | (go_at_call 76; refine (writeString_k w.heap.size w.heap.size _ s _ (Or.inr (Lib.BuilderAtF.of h1)) (by simp; omega) hb1.size).mono ?_; rintro e w2 ⟨rfl, h2, b2, k2⟩))
          have hb2 := hb1.trans b2
          rw [← hj1.out] at h2
          clear c1 b1 b2 k2 h1 hgr hb0 hb1 hfresh c0 hz
          have hz2 := hb2.size
          go_wp2
          go_loopw [10, 65] (fun _ i wr => ∃ n : Nat, 1 ≤ n ∧ n ≤ k ∧ i = .int .i64 ((n : Int) - 1) ∧ Bld w.heap.size w.heap.size (Lib.byteCells (joinU xs n)) wr ∧ Below w.heap.size w wr) (fun _ i _ => k - (intOf i).toNat)
          case atStart => exact ⟨1, Nat.le_refl _, by omega, by go_num, Or.inr h2, hb2⟩
          case round =>
            obtain ⟨n, hn1, hnk, rfl, hB, hbw⟩ := hrel
            clear hb2 hz2 h2
            have hjs := joinU_size xs hx.out n (by omega)
            by_cases hlt2 : n < k
            · have hlt3 : (n : Int) - 1 < (k : Int) - 1 := by omega
              obtain ⟨s2, hs2⟩ : ∃ s2, xs[n]'(by omega) = s2 := ⟨_, rfl⟩
              have c2 := (hbw.cell (p := ⟨bk, n, none⟩) hbk).trans (hc.out n (by omega))
              have hz3 := hx.out _ (List.getElem_mem (show n < xs.length by omega))
              rw [hs2] at c2 hz3
              have hj2 : Lib.byteCells (joinU xs (n + 1)) = (Lib.byteCells (joinU xs n) ++ Lib.strCells ⟨#[44, 32]⟩) ++ Lib.strCells s2 := by
                have : xs.getD n ByteArray.empty = s2 := by rw [← hs2]; simp [List.getD, show n < xs.length by omega]
                show Lib.byteCells ((if n = 0 then [] else joinU xs n ++ [44, 32]) ++ (xs.getD n ByteArray.empty).data.toList) = _
                rw [this, if_neg (by omega), Lib.byteCells_append, Lib.byteCells_append]
                rfl
              obtain ⟨d, rfl⟩ : ∃ d, n = d + 1 := ⟨n - 1, by omega⟩
              replace hs2 := Lib.hid hs2
              replace hj2 := Lib.hid hj2
              have hbs := hbw.size
              have e1 : ((d + 1 : Nat) : Int) - 1 = (d : Int) := by omega
              have hd1 : (d : Int) < (k : Int) - 1 := by omega
              rw [e1]
              have c3 : wr.cell? ⟨bk, 1 + d, none⟩ = some (.string s2) := by rw [Nat.add_comm 1 d]; exact c2
              have hlt4 : d + 1 < k := hlt2
              clear e1 hlt3 hn1 hbk hs2
              go_wp2_with (go_at_call 76; refine (writeString_k w.heap.size w.heap.size _ ⟨#[44, 32]⟩ _ hB (by rw [Lib.byteCells_length]; show _ + 2 ≤ _; omega) hbs).mono ?_)
              rintro e w3 ⟨rfl, h3, b3, k3⟩
              have hbs3 := Nat.le_trans hbs b3.size
              go_wp2_with (go_at_call 76; refine (writeString_k w.heap.size w.heap.size _ s2 _ (Or.inr h3) (by rw [List.length_append, Lib.byteCells_length, Lib.strCells_length]; show _ + 2 + _ ≤ _; omega) hbs3).mono ?_)
              rintro e w4 ⟨rfl, h4, b4, k4⟩
              go_wp2
              go_roundw
              case rel => exact ⟨d + 1 + 1, by omega, by omega, by go_num, by rw [hj2.out]; exact Or.inr h4, (hbw.trans b3).trans b4⟩
              case measure => simp [intOf]; omega
            · obtain rfl : n = k := by omega
              have hlt3 : ¬ (n : Int) - 1 < (n : Int) - 1 := by omega
              have hbs := hbw.size
              go_wp2_with (go_at_call 60; refine (string_k w.heap.size w.heap.size (joinU xs n) _ hB hbs).mono ?_; rintro e w3 ⟨rfl, h3, b3, k3⟩)
              go_ret
              exact ⟨rfl, hbw.trans b3⟩
end Go.Proofs.YtmijfcdmnibnpaaGreatDoor
/- Contracts of package value's source form of a value. -/
namespace Go.Proofs.YtmijfcdmnibnpaaGreatDoor
open Go Go.RowKit

theorem Pow.below {w w' : World} (h : Pow w) (hb : Below w.heap.size w w') : Pow w' := by
  unfold Pow Lib.TabIs at h ⊢
  have hg : Tryz.prog.globalNamed "internal/strconv.uint64pow10" = some 6 := by kernel_rfl
  unfold World.var? at h ⊢
  rw [hg] at h ⊢
  simp only [Option.bind_some] at h ⊢
  by_cases hlt : 6 < w.heap.size
  · rw [hb.block _ hlt]; exact h
  · rw [Array.getElem?_eq_none (Nat.le_of_not_lt hlt)] at h
    simp at h
theorem formatBool_any (n : Int) (w : World) :
    Calls Tryz.prog 37 #[.int .i64 n] w fun e w' => e = .returned (.string (if n = 1 then ⟨#[116, 114, 117, 101]⟩ else ⟨#[102, 97, 108, 115, 101]⟩)) ∧ w' = w := by
  by_cases h : n = 1
  · subst h
    rw [if_pos rfl]
    go_enter Tryz.func37, Tryz.ntmps37
    go_wp2
    go_ret
    exact ⟨rfl, rfl⟩
  · rw [if_neg h]
    have g1 : (n == 1) = false := by rw [beq_eq_false_iff_ne]; exact h
    go_enter Tryz.func37, Tryz.ntmps37
    go_wp2
    go_ret
    exact ⟨rfl, rfl⟩
/-- A row of texts in block B. -/
structure QRow (qs : List ByteArray) (N B : Nat) (w wr : World) : Prop where
  here : wr.heap[B]? = some (.cells (Lib.cellsOf qs N) 9 (0, 0))
  below : Below B w wr
theorem QRow.lt {qs : List ByteArray} {N B : Nat} {w wr : World} (h : QRow qs N B w wr) : B < wr.heap.size := (Array.getElem?_eq_some_iff.1 h.here).1
theorem QRow.grown {qs : List ByteArray} {N B : Nat} {w wr w' : World} (h : QRow qs N B w wr) (hb : Below wr.heap.size wr w') : QRow qs N B w w' :=
  ⟨(hb.block B h.lt).trans h.here, h.below.trans (hb.mono (Nat.le_of_lt h.lt))⟩
theorem QRow.put {qs : List ByteArray} {N B : Nat} {w wr : World} (h : QRow qs N B w wr) (hl : qs.length < N) (x : ByteArray) : QRow (qs ++ [x]) N B w (wr.setCell ⟨B, qs.length, none⟩ (.string x)) := by
  refine ⟨?_, h.below.setCell (p := ⟨B, qs.length, none⟩) (Nat.le_refl _) _⟩
  show (wr.heap.modify B _)[B]? = _
  rw [Array.getElem?_modify, if_pos rfl, h.here, ← Lib.cellsOf_set hl x]
  rfl
theorem QRow.next {qs : List ByteArray} {N B : Nat} {w wr : World} (h : QRow qs N B w wr) (hl : qs.length < N) : wr.cell? ⟨B, qs.length, none⟩ = some (.string ByteArray.empty) := by
  rw [Lib.cell_of_heap h.here]
  exact Lib.cellsOf_next hl
theorem QRow.free {qs : List ByteArray} {N B : Nat} {w wr : World} (h : QRow qs N B w wr) (i : Nat) : wr.frozen? ⟨B, i, none⟩ = false := Lib.frozen_of_heap h.here i
theorem QRow.at {qs : List ByteArray} {N B : Nat} {w wr : World} (h : QRow qs N B w wr) (i : Nat) (hi : i < qs.length) : wr.cell? ⟨B, i, none⟩ = some (.string qs[i]) := by
  rw [Lib.cell_of_heap h.here]
  unfold Lib.cellsOf
  rw [List.getElem?_toArray, List.getElem?_append_left (by simpa using hi)]
  simp [hi]
theorem fmtTo_join (l : List ByteArray) : ∀ n, n ≤ l.length → fmtTo l n = ⟨#[91]⟩ ++ ⟨(joinU (l.map quoteB) n).toArray⟩
  | 0, _ => by unfold fmtTo joinU; rfl
  | n + 1, h => by
    have ih := fmtTo_join l n (by omega)
    have hg : (l.map quoteB).getD n ByteArray.empty = quoteB (l.getD n ByteArray.empty) := by simp [List.getD, show n < l.length by omega]
    unfold fmtTo joinU
    rw [hg]
    apply ByteArray.ext
    apply Array.toList_inj.1
    rw [append_data, append_data]
    by_cases h0 : n = 0
    · subst h0
      simp [fmtTo]
    · rw [if_neg h0, if_neg h0, append_data, ih, append_data]
      simp
set_option maxHeartbeats 8000000 in
set_option maxRecDepth 100000 in
theorem formatList_any (a0 : Option Addr) (l : List ByteArray) (cap : Nat) (w : World) (h20 : l.length ≤ 20) (hv : l.all validB = true) (hT : Tabs w) (hA : TextsAre a0 l w) :
    Calls Tryz.prog 40 #[.slice a0 (l.length : Nat) cap] w fun e w' => e = .returned (.string (fmtTo l l.length ++ ⟨#[93]⟩)) ∧ Below w.heap.size w w' := by
  have hmk := run_make_row' (P := Tryz.prog) 27 9 (.string ByteArray.empty) 16 Tryz.underlying27 infoTextE rfl .i64 .i64 l.length (by omega) (by omega)
  have hq0 : QRow [] l.length w.heap.size w (w.alloc (.cells (Lib.cellsOf [] l.length) 9)) := ⟨heap_alloc_new w _, (Below.refl _ w).alloc (Nat.le_refl _) _⟩
  rw [Lib.cellsOf_nil] at hq0
  have hl' : (l.length : Int) ≤ 20 := by omega
  replace hA := Lib.hid hA
  replace hv := Lib.hid hv
  replace hq0 := Lib.hid hq0
  obtain ⟨R, hR⟩ : ∃ R, fmtTo l l.length ++ ⟨#[93]⟩ = R := ⟨_, rfl⟩
  rw [hR]
  replace hR := Lib.hid hR
  go_enter Tryz.func40, Tryz.ntmps40
  go_wp2
  clear hmk
  go_loopw [4, 5, 11] (fun _ _ i wr => ∃ k : Nat, k ≤ l.length ∧ i = .int .i64 k ∧ Hid (QRow ((l.take k).map quoteB) l.length w.heap.size w wr)) (fun _ _ i _ => l.length - (intOf i).toNat)
  case atStart => exact ⟨0, Nat.zero_le _, rfl, hq0⟩
  case round =>
    obtain ⟨k, hk, rfl, hq⟩ := hrel
    clear hq0
    by_cases hlt : k < l.length
    · have hlt' : (k : Int) < (l.length : Int) := by omega
      obtain ⟨b, off, he, hbk, hc⟩ := hA.out k hlt
      subst he
      have hcw := (hq.out.below.cell (p := ⟨b, off + k, none⟩) hbk).trans hc
      have hvk : validB l[k] = true := List.all_eq_true.1 hv.out _ (List.getElem_mem _)
      have hcall := quote_loop l[k] wr hvk (hT.below hq.out.below)
      have hstep : (l.take (k + 1)).map quoteB = (l.take k).map quoteB ++ [quoteB l[k]] := by rw [List.take_succ_eq_append_getElem hlt, List.map_append]; rfl
      have hlen : ((l.take k).map quoteB).length = k := by simp; omega
      change Calls _ _ _ _ (fun e w' => e = .returned (.tuple #[.string (quoteB l[k]), .int .i64 0]) ∧ _) at hcall
      replace hc := Lib.hid hc
      replace hvk := Lib.hid hvk
      generalize quoteB l[k] = qs at hcall hstep
      generalize l[k] = s at hcw hcall
      replace hcall := Lib.hid hcall
      have hput := Lib.hid (fun (W : World) (hb : Below wr.heap.size wr W) => (by
        have h := (hq.out.grown hb).put (by rw [hlen]; exact hlt) qs
        rw [hlen, ← hstep] at h
        exact h : QRow ((l.take (k + 1)).map quoteB) l.length w.heap.size w (W.setCell ⟨w.heap.size, k, none⟩ (.string qs))))
      have hcn := Lib.hid (fun (W : World) (hb : Below wr.heap.size wr W) => (by
        have h := (hq.out.grown hb).next (by rw [hlen]; exact hlt)
        rw [hlen] at h
        exact h : W.cell? ⟨w.heap.size, k, none⟩ = some (.string ByteArray.empty)))
      have hcf := Lib.hid (fun (W : World) (hb : Below wr.heap.size wr W) => (hq.out.grown hb).free k)
      clear hstep hlen hq
      go_wp2_with (go_at_call 39; refine hcall.out.mono ?_; rintro e w2 ⟨rfl, hb2⟩; have g1 := hcn.out w2 hb2; have g2 := hcf.out w2 hb2)
      go_roundw
      case rel => exact ⟨k + 1, by omega, by go_num, Lib.hid (hput.out w2 hb2)⟩
      case measure => simp [intOf]; omega
    · obtain rfl : k = l.length := by omega
      have hlt' : ¬ (l.length : Int) < (l.length : Int) := by omega
      have hq1 := hq.out
      rw [List.take_of_length_le (Nat.le_refl _)] at hq1
      have hml : (l.map quoteB).length = l.length := by simp
      have hcall := join_any w.heap.size l.length (l.map quoteB) wr (by rw [hml]; exact h20) (fun s hs => by
        obtain ⟨x, hx, rfl⟩ := List.mem_map.1 hs
        exact quoteB_size (List.all_eq_true.1 hv.out _ hx)) (by rw [hml]; exact Nat.le_refl _) (fun i hi => hq1.at i hi) hq1.lt
      rw [hml] at hcall
      have hf := fmtTo_join l l.length (Nat.le_refl _)
      have hjz := joinU_size (l.map quoteB) (fun s hs => by
        obtain ⟨x, hx, rfl⟩ := List.mem_map.1 hs
        exact quoteB_size (List.all_eq_true.1 hv.out _ hx)) l.length (by rw [hml]; exact Nat.le_refl _)
      have hjs : (⟨(joinU (l.map quoteB) l.length).toArray⟩ : ByteArray).size ≤ 10000 := by show (joinU (l.map quoteB) l.length).toArray.size ≤ _; rw [List.size_toArray]; omega
      generalize (⟨(joinU (l.map quoteB) l.length).toArray⟩ : ByteArray) = J at hcall hf hjs
      have hR2 : R = (⟨#[91]⟩ ++ J) ++ ⟨#[93]⟩ := by rw [← hR.out, hf]
      subst hR2
      clear hR hf
      replace hcall := Lib.hid hcall
      have hbel := hq1.below
      have hbq := Lib.hid (fun W (hb : Below wr.heap.size wr W) => (hq1.grown hb).below)
      clear hq hq1 hjz hml
      go_wp2_with (go_at_call 61; refine hcall.out.mono ?_; rintro e w2 ⟨rfl, hb2⟩)
      go_ret
      exact ⟨rfl, hbq.out w2 hb2⟩
set_option maxHeartbeats 8000000 in
theorem format_any (x : Val) (a0 : Option Addr) (cap : Nat) (w : World) (hx : x.text.size ≤ 9223372036854775000) (hxl : x.list.length ≤ 9223372036854775806) (hxs : ∀ s ∈ x.list, s.size ≤ 9223372036854775806) (hT : Tabs w) (hP : Pow w) (hA : TextsAre a0 x.list w) :
    Calls Tryz.prog 19 #[x.agg a0 cap] w fun e w' => e = .returned (.tuple #[.string (formatP x).1, .int .i64 (formatP x).2]) ∧ Below w.heap.size w w' := by
  have hs0 : Box1 x a0 cap w.heap.size w (w.alloc (.cells #[.int .i64 x.kind, .int .i64 x.num, .string x.text, .slice a0 (x.list.length : Nat) cap] 29)) := ⟨heap_alloc_new w _, (Below.refl _ w).alloc (Nat.le_refl _) _⟩
  have hcx := Lib.hid (fun W (h : Below w.heap.size w W) => check_any x a0 cap W hx hxl hxs (hT.below h) (hA.below (Nat.le_refl _) h))
  have kx := Lib.hid (checkE_kind x)
  have px := Lib.hid (checkE_parts x)
  obtain ⟨r, hr⟩ : ∃ r, formatP x = r := ⟨_, rfl⟩
  rw [hr]
  unfold formatP at hr
  generalize checkE x = ex at hcx hr kx px
  clear hxs hxl hx
  obtain ⟨k, n, t, l⟩ := x
  unfold Val.agg at hcx ⊢
  replace hcx := Lib.hid hcx.out
  simp only at hr hs0 hA
  by_cases h1 : ex = 0
  · subst h1
    rw [if_neg (by simp)] at hr
    have kx1 : 1 ≤ k := (kx.out rfl).1
    have kx5 : k ≤ 5 := (kx.out rfl).2
    have pp := px.out rfl
    simp only at pp
    replace pp := Lib.hid pp
    clear kx px
    go_enter Tryz.func19, Tryz.ntmps19
    go_upto_region 1 with (fail)
    generalize w.alloc (.cells #[.int .i64 k, .int .i64 n, .string t, .slice a0 l.length cap] 29) = w0 at hs0 ⊢
    have p0 : w0.cell? ⟨w.heap.size, 0, none⟩ = some (.int .i64 k) := by rw [Lib.cell_of_heap hs0.one]; rfl
    have p1 : w0.cell? ⟨w.heap.size, 1, none⟩ = some (.int .i64 n) := by rw [Lib.cell_of_heap hs0.one]; rfl
    have p2 : w0.cell? ⟨w.heap.size, 2, none⟩ = some (.string t) := by rw [Lib.cell_of_heap hs0.one]; rfl
    have p3 : w0.cell? ⟨w.heap.size, 3, none⟩ = some (.slice a0 l.length cap) := by rw [Lib.cell_of_heap hs0.one]; rfl
    go_upto_region 4 with (go_at_call 24; go_fit (hcx.out _ hs0.below); rintro e w1 ⟨rfl, hb1⟩; have hs1 := hs0.grown hb1; have q0 : w1.cell? ⟨w.heap.size, 0, none⟩ = some (.int .i64 k) := (by rw [Lib.cell_of_heap hs1.one]; rfl); have q1 : w1.cell? ⟨w.heap.size, 1, none⟩ = some (.int .i64 n) := (by rw [Lib.cell_of_heap hs1.one]; rfl); have q2 : w1.cell? ⟨w.heap.size, 2, none⟩ = some (.string t) := (by rw [Lib.cell_of_heap hs1.one]; rfl); have q3 : w1.cell? ⟨w.heap.size, 3, none⟩ = some (.slice a0 l.length cap) := (by rw [Lib.cell_of_heap hs1.one]; rfl))
    clear p0 p1 p2 p3 hs0 hb1 hcx
    have hkk : k = 1 ∨ k = 2 ∨ k = 3 ∨ k = 4 ∨ k = 5 := by omega
    clear kx1 kx5
    rcases hkk with rfl | rfl | rfl | rfl | rfl
    · rw [if_pos rfl] at hr
      have hfb := Lib.hid (formatBool_any n w1)
      by_cases g : n = 1
      · subst g
        rw [if_pos rfl] at hr
        rw [if_pos rfl] at hfb
        replace hr := Lib.hid hr
        go_wp2_with (go_at_call 37; refine hfb.out.mono ?_; rintro e w2 ⟨rfl, rfl⟩)
        go_ret2
        exact ⟨by rw [← hr.out]; rfl, hs1.below⟩
      · rw [if_neg g] at hr
        rw [if_neg g] at hfb
        replace hr := Lib.hid hr
        replace g := Lib.hid g
        go_wp2_with (go_at_call 37; refine hfb.out.mono ?_; rintro e w2 ⟨rfl, rfl⟩)
        go_ret2
        exact ⟨by rw [← hr.out]; rfl, hs1.below⟩
    · rw [if_neg (by decide), if_pos rfl] at hr
      replace hr := Lib.hid hr
      have hnb := pp.out.1 rfl
      have hnum := Lib.hid (number_any n w1 (by omega) (by omega) (hP.below hs1.below))
      clear hnb
      go_wp2_with (go_at_call 38; refine hnum.out.mono ?_; rintro e w2 ⟨rfl, hb2⟩)
      go_ret2
      exact ⟨by rw [← hr.out]; rfl, (hs1.grown hb2).below⟩
    · rw [if_neg (by decide), if_neg (by decide), if_pos rfl] at hr
      replace hr := Lib.hid hr
      have hq := Lib.hid (quote_loop t w1 (pp.out.2.1 rfl) (hT.below hs1.below))
      go_wp2_with (go_at_call 39; refine hq.out.mono ?_; rintro e w2 ⟨rfl, hb2⟩)
      go_ret2
      exact ⟨by rw [← hr.out]; rfl, (hs1.grown hb2).below⟩
    · rw [if_neg (by decide), if_neg (by decide), if_neg (by decide), if_pos rfl] at hr
      replace hr := Lib.hid hr
      go_wp2
      go_ret2
      exact ⟨by rw [← hr.out]; rfl, hs1.below⟩
    · rw [if_neg (by decide), if_neg (by decide), if_neg (by decide), if_neg (by decide)] at hr
      replace hr := Lib.hid hr
      obtain ⟨hl20, hall⟩ := pp.out.2.2 rfl
      have hfl := Lib.hid (formatList_any a0 l cap w1 hl20 hall (hT.below hs1.below) (hA.below (Nat.le_refl _) hs1.below))
      replace hall := Lib.hid hall
      go_wp2_with (go_at_call 40; refine hfl.out.mono ?_; rintro e w2 ⟨rfl, hb2⟩)
      go_ret2
      exact ⟨by rw [← hr.out]; rfl, (hs1.grown hb2).below⟩
  · rw [if_pos h1] at hr
    replace hr := Lib.hid hr
    clear px kx
    go_enter Tryz.func19, Tryz.ntmps19
    go_upto_region 1 with (fail)
    generalize w.alloc (.cells #[.int .i64 k, .int .i64 n, .string t, .slice a0 l.length cap] 29) = w0 at hs0 ⊢
    have p0 : w0.cell? ⟨w.heap.size, 0, none⟩ = some (.int .i64 k) := by rw [Lib.cell_of_heap hs0.one]; rfl
    have p1 : w0.cell? ⟨w.heap.size, 1, none⟩ = some (.int .i64 n) := by rw [Lib.cell_of_heap hs0.one]; rfl
    have p2 : w0.cell? ⟨w.heap.size, 2, none⟩ = some (.string t) := by rw [Lib.cell_of_heap hs0.one]; rfl
    have p3 : w0.cell? ⟨w.heap.size, 3, none⟩ = some (.slice a0 l.length cap) := by rw [Lib.cell_of_heap hs0.one]; rfl
    go_wp2_with (go_at_call 24; go_fit (hcx.out _ hs0.below); rintro e w1 ⟨rfl, hb1⟩; have hs1 := hs0.grown hb1; have q0 : w1.cell? ⟨w.heap.size, 0, none⟩ = some (.int .i64 k) := (by rw [Lib.cell_of_heap hs1.one]; rfl); have q1 : w1.cell? ⟨w.heap.size, 1, none⟩ = some (.int .i64 n) := (by rw [Lib.cell_of_heap hs1.one]; rfl); have q2 : w1.cell? ⟨w.heap.size, 2, none⟩ = some (.string t) := (by rw [Lib.cell_of_heap hs1.one]; rfl); have q3 : w1.cell? ⟨w.heap.size, 3, none⟩ = some (.slice a0 l.length cap) := (by rw [Lib.cell_of_heap hs1.one]; rfl))
    go_ret2
    exact ⟨by rw [← hr.out]; rfl, hs1.below⟩
end Go.Proofs.YtmijfcdmnibnpaaGreatDoor
