/- Contracts of strings.Builder's writers at this translation (its copyCheck holds a refused statement behind a test that a builder which nobody copied never meets): for a builder that the call itself made. Contracts of strings.Builder.WriteString and WriteRune at this translation: for a builder that the call itself made. Contracts: isEscaped_any. Contracts: quote_bad, quote_loop. Contract of strings.Join at short texts and a comma. Contracts of package subject's Canonical and of the document's answer for it. -/
import Derived.Test.YtcbnefeedoabeaaGreatDoorShelf
import Derived.Shelf.Strings.BuilderRune
import Derived.WalkKit
import Derived.WalkMore
import Derived.Lib.Hide
import Derived.Outline
import Derived.Test.YtcbnefeedoabeaaGreatDoorProg
import Derived.Test.YtcbnefeedoabeaaGreatDoorPa
import Derived.Test.YtcbnefeedoabeaaGreatDoorPc
import Derived.Test.YtcbnefeedoabeaaGreatDoorPd
import Derived.BigRegion
import Derived.Deep.RegionWith
import Derived.Deep.DeepFit
import Derived.IntWalk
import Derived.Deep.DeepCutAuto
import Derived.Test.YtcbnefeedoabeaaGreatDoorPe
import Derived.Laws.MakeOwn
/- Contracts of strings.Builder's writers at this translation (its copyCheck holds a refused statement behind a test that a builder which nobody copied never meets): for a builder that the call itself made. -/
set_option linter.unusedVariables false
namespace Go.Proofs.YtcbnefeedoabeaaGreatDoor
open Go Go.RowKit Go.Shelf

abbrev XB := Tryz.Builder_Extra_169
set_option maxHeartbeats 1000000 in
set_option maxRecDepth 100000 in
theorem copyCheck_used (b : Nat) (w : World) (h0 : w.cell? ⟨b, 0, none⟩ = some (.pointer (some ⟨b, 0, none⟩))) :
    Calls Tryz.prog 144 #[.pointer (some ⟨b, 0, none⟩)] w fun e w' => e = .returned (.tuple #[]) ∧ w' = w := by
  obtain ⟨j, hj, _⟩ := Option.map_eq_some_iff.1 XB.sizeBuilder
  go_enter Tryz.func144, Tryz.ntmps144
  go_wp2
  rw [Lib.run_neq_ptr_same w _ Tryz.underlying141 hj]
  go_wp2
  go_end0
  exact ⟨rfl, rfl⟩

set_option maxHeartbeats 1000000 in
set_option maxRecDepth 100000 in
theorem copyCheck_fresh (b : Nat) (w : World) (h0 : w.cell? ⟨b, 0, none⟩ = some (.pointer none)) (hsh : w.shape? b = some (143, 2)) (hfz : w.frozen? ⟨b, 0, none⟩ = false) :
    Calls Tryz.prog 144 #[.pointer (some ⟨b, 0, none⟩)] w fun e w' => e = .returned (.tuple #[]) ∧ w' = w.setCell ⟨b, 0, none⟩ (.pointer (some ⟨b, 0, none⟩)) := by
  obtain ⟨j, hj, hjs⟩ := Option.map_eq_some_iff.1 XB.sizeBuilder
  go_enter Tryz.func144, Tryz.ntmps144
  go_wp2
  rw [Lib.run_to_unsafe w ⟨b, 0, none⟩ Tryz.underlying141 Tryz.underlying190 hj (by rw [hjs]; decide) hsh (Nat.zero_lt_succ 1)]
  simp only [Result.andThen]
  rw [Oper.upon_value]
  go_wp2
  rw [run_callFunc_extern Tryz.func162 (by kernel_rfl) (by kernel_rfl) (by kernel_rfl) (e := Extern.AbiNoEscape.same) (by kernel_rfl)]
  rw [Lib.run_noEscape]
  simp only [Result.andThen]
  rw [Oper.upon_value]
  go_wp2
  rw [Lib.run_from_unsafe w ⟨b, 0, none⟩ Tryz.underlying190 Tryz.underlying141 hj hsh XB.liesBuilder]
  simp only [Result.andThen]
  rw [Oper.upon_value]
  go_wp2
  go_end0
  exact ⟨rfl, rfl⟩

/-- A builder of the call's own, whose block is b, holds these cells. -/
abbrev Bld (B b : Nat) (bs : List Value) (w : World) : Prop := Lib.IsBuilderF 143 5 B b bs w
abbrev BldAt (B b : Nat) (bs : List Value) (w : World) : Prop := Lib.BuilderAtF 143 5 B b (.pointer (some ⟨b, 0, none⟩)) bs w

theorem copyCheck_k (B b : Nat) (bs : List Value) (w : World) (h : Bld B b bs w) :
    Calls Tryz.prog 144 #[.pointer (some ⟨b, 0, none⟩)] w fun e w' => e = .returned (.tuple #[]) ∧ (BldAt B b bs w' ∧ Below B w w' ∧ Lib.OthersKept 5 (some b) w w') := by
  rcases h with h | h
  · refine (copyCheck_fresh b w h.cell0 h.shape h.frozen0).mono ?_
    rintro e w' ⟨rfl, rfl⟩
    exact ⟨rfl, h.used _, (Below.refl B w).setCell (p := ⟨b, 0, none⟩) h.1 _, (Lib.OthersKept.refl _ _ w).setCell ⟨b, 0, none⟩ rfl _⟩
  · refine (copyCheck_used b w h.cell0).mono ?_
    rintro e w' ⟨rfl, rfl⟩
    exact ⟨rfl, h, Below.refl B _, Lib.OthersKept.refl _ _ _⟩

set_option maxHeartbeats 2000000 in
set_option maxRecDepth 100000 in
theorem writeByte_k (B b : Nat) (bs : List Value) (c : Int) (w : World) (h : Bld B b bs w) (hlen : bs.length + 1 ≤ 140737488355328) (hBw : B ≤ w.heap.size) :
    Calls Tryz.prog 105 #[.pointer (some ⟨b, 0, none⟩), .int .u8 c] w fun e w' => e = .returned .nilIface ∧ (BldAt B b (bs ++ [.int .u8 c]) w' ∧ Below B w w' ∧ Lib.OthersKept 5 (some b) w w') := by
  obtain ⟨i0, hi, hz0, hz1, hz2⟩ := info_parts XB.infoByte
  go_enter Tryz.func105, Tryz.ntmps105
  go_wp2_with (go_at_call 144; refine (copyCheck_k B b bs _ h).mono ?_)
  rintro e w1 ⟨rfl, h1, hb1, hk1⟩
  obtain ⟨hB, v, hbk, hown, hne⟩ := h1
  have c0 : w1.cell? ⟨b, 0, none⟩ = some (.pointer (some ⟨b, 0, none⟩)) := by rw [Lib.cell_of_heap hbk]; rfl
  have c1 : w1.cell? ⟨b, 1, none⟩ = some v := by rw [Lib.cell_of_heap hbk]; rfl
  go_wp2_with (at_builtin; refine wpList_append_ownF _ rfl _ _ 22 rfl B 5 i0 (.int .u8 0) 1 1 Tryz.underlying22 hi hz0 hz1 hz2 rfl (by decide) _ _ _ rfl (hown.alloc _) ⟨w1.heap.size, 0, none⟩ 1 1 [.int .u8 c] rfl rfl ?c1 ?c2 ?c3 ?c4 ?c5 ?_)
  case c1 =>
    intro j u hj
    match j, hj with
    | 0, hj => simp at hj; subst hj; simp [Addr.add]
  case c2 => intro u hu; simp at hu; subst hu; rfl
  case c3 => unfold maxLen; omega
  case c4 => omega
  case c5 => have := hb1.size; simp; omega
  intro v' w2 hown' hgrow _
  have hlt : b < w1.heap.size := by
    rcases Nat.lt_or_ge b w1.heap.size with h' | h'
    · exact h'
    · simp [Array.getElem?_eq_none h'] at hbk
  have hb2 : w2.heap[b]? = some (.cells #[.pointer (some ⟨b, 0, none⟩), v] 143 (0, 0)) := by
    rw [hgrow.block b (by simp; omega) (fun e => hne e.symm), Lib.alloc_old w1 _ b hlt]
    exact hbk
  have d0 : w2.cell? ⟨b, 0, none⟩ = some (.pointer (some ⟨b, 0, none⟩)) := by rw [Lib.cell_of_heap hb2]; rfl
  have d1 : w2.cell? ⟨b, 1, none⟩ = some v := by rw [Lib.cell_of_heap hb2]; rfl
  have f1 : w2.frozen? ⟨b, 1, none⟩ = false := Lib.frozen_of_heap hb2 1
  obtain ⟨g, cap, rfl⟩ : ∃ g cap, v' = .slice (some ⟨g, 0, none⟩) (bs.length + 1) cap := by
    rcases hown'.2 with ⟨_, h0⟩ | ⟨g, cap, cur, fz, hv, _⟩
    · omega
    · exact ⟨g, cap, hv⟩
  go_wp2
  go_ret
  refine ⟨rfl, ?_, ?_, ((hk1.alloc _).grown hgrow (Lib.ownsRowF_kind (hown.alloc _))).setCell ⟨b, 1, none⟩ rfl _⟩
  · exact Lib.BuilderAtF.put hB hb2 (bs' := bs ++ [.int .u8 c]) (by simpa using hown') (by decide)
  · exact ((hb1.alloc (by have := hb1.size; omega) _).grown hgrow (by have := hb1.size; simp; omega) (fun k hk => (hown.lt k hk).1)).setCell (p := ⟨b, 1, none⟩) hB _
end Go.Proofs.YtcbnefeedoabeaaGreatDoor
/- Contracts of strings.Builder.WriteString and WriteRune at this translation: for a builder that the call itself made. -/
set_option linter.unusedVariables false
namespace Go.Proofs.YtcbnefeedoabeaaGreatDoor
open Go Go.RowKit Go.Shelf

set_option maxHeartbeats 2000000 in
set_option maxRecDepth 100000 in
theorem writeString_k (B b : Nat) (bs : List Value) (s : ByteArray) (w : World) (h : Bld B b bs w) (hlen : bs.length + s.size ≤ 140737488355328) (hBw : B ≤ w.heap.size) :
    Calls Tryz.prog 110 #[.pointer (some ⟨b, 0, none⟩), .string s] w fun e w' => e = .returned (.tuple #[.int .i64 s.size, .nilIface]) ∧ (BldAt B b (bs ++ Lib.strCells s) w' ∧ Below B w w' ∧ Lib.OthersKept 5 (some b) w w') := by
  obtain ⟨i0, hi, hz0, hz1, hz2⟩ := info_parts XB.infoByte
  go_enter Tryz.func110, Tryz.ntmps110
  go_wp2_with (go_at_call 144; refine (copyCheck_k B b bs _ h).mono ?_)
  rintro e w1 ⟨rfl, h1, hb1, hk1⟩
  obtain ⟨hB, v, hbk, hown, hne⟩ := h1
  have c0 : w1.cell? ⟨b, 0, none⟩ = some (.pointer (some ⟨b, 0, none⟩)) := by rw [Lib.cell_of_heap hbk]; rfl
  have c1 : w1.cell? ⟨b, 1, none⟩ = some v := by rw [Lib.cell_of_heap hbk]; rfl
  go_wp2_with (at_builtin; refine Lib.wpList_append_own_stringF _ rfl _ _ 22 9 rfl B 5 i0 Tryz.underlying22 Tryz.underlying9 hi hz0 hz1 hz2 _ _ _ rfl hown s rfl ?c3 ?c4 ?c5 ?_)
  case c3 => unfold maxLen; omega
  case c4 => omega
  case c5 => have := hb1.size; omega
  intro v' w2 hown' hgrow _
  have hlt : b < w1.heap.size := by
    rcases Nat.lt_or_ge b w1.heap.size with h' | h'
    · exact h'
    · simp [Array.getElem?_eq_none h'] at hbk
  have hb2 : w2.heap[b]? = some (.cells #[.pointer (some ⟨b, 0, none⟩), v] 143 (0, 0)) := by
    rw [hgrow.block b hlt (fun e => hne e.symm)]
    exact hbk
  have d0 : w2.cell? ⟨b, 0, none⟩ = some (.pointer (some ⟨b, 0, none⟩)) := by rw [Lib.cell_of_heap hb2]; rfl
  have d1 : w2.cell? ⟨b, 1, none⟩ = some v := by rw [Lib.cell_of_heap hb2]; rfl
  have f1 : w2.frozen? ⟨b, 1, none⟩ = false := Lib.frozen_of_heap hb2 1
  obtain ⟨ao, n', cap, rfl⟩ : ∃ ao n' cap, v' = .slice ao n' cap := by
    rcases hown'.2 with ⟨hv, _⟩ | ⟨g, cap, cur, fz, hv, _⟩
    · exact ⟨_, _, _, hv⟩
    · exact ⟨_, _, _, hv⟩
  go_wp2
  go_ret2
  refine ⟨rfl, ?_, ?_, (hk1.grown hgrow (Lib.ownsRowF_kind hown)).setCell ⟨b, 1, none⟩ rfl _⟩
  · exact Lib.BuilderAtF.put hB hb2 (bs' := bs ++ Lib.strCells s) (by simpa [Lib.strCells_length] using hown') (by decide)
  · exact (hb1.grown hgrow (by have := hb1.size; omega) (fun k hk => (hown.lt k hk).1)).setCell (p := ⟨b, 1, none⟩) hB _

/-- The numbers of AppendRune's closure, with the builder's type beside them. -/
def renB : Go.Shelf.Ren := ⟨fun | 242 => 145 | 278 => 163 | n => n, fun | 37 => 22 | 21 => 21 | 51 => 162 | 4 => 4 | 5 => 5 | 46 => 113 | 72 => 143 | n => n, fun | n => n⟩
set_option maxRecDepth 100000 in
theorem extraB : Builder.Extra Tryz.prog renB := { sizeBuilder := XB.sizeBuilder, liesBuilder := XB.liesBuilder, t5 := XB.t5, a5 := XB.a5, z5 := XB.z5, v5 := XB.v5, infoByte := XB.infoByte, cellsByte := XB.cellsByte, sizeByte := XB.sizeByte, neB5 := by decide }
set_option maxRecDepth 100000 in
theorem laysB : Go.Proofs.Lays.n242 Tryz.prog renB := { Tryz.lays242 with }

theorem appendRune_own (B : Nat) (v : Value) (n : Nat) (xs : List Value) (r : Int) (hr0 : -2147483648 ≤ r) (hr1 : r ≤ 2147483647) (w : World) (hown : w.ownsRowF B 5 1 v n xs) (hlen : n + 4 ≤ 140737488355328) (hBw : B ≤ w.heap.size) :
    Calls Tryz.prog 145 #[v, .int .i32 r] w fun e w' => ∃ v', e = .returned v' ∧ w'.ownsRowF B 5 1 v' (n + (Lib.runeCells r).length) (xs ++ Lib.runeCells r) ∧ ∃ o, (w.alloc o).grownBy w' v.ownBlock :=
  Any.utf8_AppendRune_own laysB extraB B v n xs r hr0 hr1 w hown hlen hBw

set_option maxHeartbeats 4000000 in
set_option maxRecDepth 100000 in
theorem writeRune_k (B b : Nat) (bs : List Value) (r : Int) (hr0 : -2147483648 ≤ r) (hr1 : r ≤ 2147483647) (w : World) (h : Bld B b bs w) (hlen : bs.length + 4 ≤ 140737488355328) (hBw : B ≤ w.heap.size) :
    Calls Tryz.prog 107 #[.pointer (some ⟨b, 0, none⟩), .int .i32 r] w fun e w' => e = .returned (.tuple #[.int .i64 (Lib.runeCells r).length, .nilIface]) ∧ (BldAt B b (bs ++ Lib.runeCells r) w' ∧ Below B w w' ∧ Lib.OthersKept 5 (some b) w w') := by
  have hk4 := Lib.runeCells_le r
  go_enter Tryz.func107, Tryz.ntmps107
  go_wp2_with (go_at_call 144; refine (copyCheck_k B b bs _ h).mono ?_)
  rintro e w1 ⟨rfl, h1, hb1, hk1⟩
  obtain ⟨hB, v, hbk, hown, hne⟩ := h1
  obtain ⟨ao, cap, rfl⟩ : ∃ ao cap, v = .slice ao bs.length cap := by
    rcases hown.2 with ⟨hv, h0⟩ | ⟨g, cap, cur, fz, hv, _⟩
    · exact ⟨none, 0, by rw [hv, h0]⟩
    · exact ⟨_, _, hv⟩
  have c0 : w1.cell? ⟨b, 0, none⟩ = some (.pointer (some ⟨b, 0, none⟩)) := by rw [Lib.cell_of_heap hbk]; rfl
  have c1 : w1.cell? ⟨b, 1, none⟩ = some (.slice ao bs.length cap) := by rw [Lib.cell_of_heap hbk]; rfl
  go_wp2_with (go_at_call 145; refine (appendRune_own B _ bs.length bs r hr0 hr1 _ hown hlen (by have := hb1.size; omega)).mono ?_)
  rintro e w2 ⟨v', rfl, hown', o, hgrow⟩
  have hlt : b < w1.heap.size := by
    rcases Nat.lt_or_ge b w1.heap.size with h' | h'
    · exact h'
    · simp [Array.getElem?_eq_none h'] at hbk
  have hb2 : w2.heap[b]? = some (.cells #[.pointer (some ⟨b, 0, none⟩), .slice ao bs.length cap] 143 (0, 0)) := by
    rw [hgrow.block b (by simp; omega) (fun e => hne e.symm), Lib.alloc_old w1 _ b hlt]
    exact hbk
  have d0 : w2.cell? ⟨b, 0, none⟩ = some (.pointer (some ⟨b, 0, none⟩)) := by rw [Lib.cell_of_heap hb2]; rfl
  have d1 : w2.cell? ⟨b, 1, none⟩ = some (.slice ao bs.length cap) := by rw [Lib.cell_of_heap hb2]; rfl
  have f1 : w2.frozen? ⟨b, 1, none⟩ = false := Lib.frozen_of_heap hb2 1
  obtain ⟨g, cap', rfl⟩ : ∃ g cap', v' = .slice (some ⟨g, 0, none⟩) (bs.length + (Lib.runeCells r).length) cap' := by
    rcases hown'.2 with ⟨_, h0⟩ | ⟨g, cap', cur, fz, hv, _⟩
    · omega
    · exact ⟨g, cap', hv⟩
  go_wp2
  go_ret2
  refine ⟨?_, ?_, ?_, ((hk1.alloc _).grown hgrow (Lib.ownsRowF_kind (hown.alloc _))).setCell ⟨b, 1, none⟩ rfl _⟩
  · have e : ((bs.length : Int) + ((Lib.runeCells r).length : Int) - (bs.length : Int)) = ((Lib.runeCells r).length : Int) := by omega
    simp [e]
  · exact Lib.BuilderAtF.put hB hb2 (bs' := bs ++ Lib.runeCells r) (by simpa using hown') (by decide)
  · exact ((hb1.alloc (by have := hb1.size; omega) _).grown hgrow (by have := hb1.size; simp; omega) (fun k hk => (hown.lt k hk).1)).setCell (p := ⟨b, 1, none⟩) hB _

theorem string_k (B b : Nat) (l : List UInt8) (w : World) (h : Bld B b (Lib.byteCells l) w) (hBw : B ≤ w.heap.size) :
    Calls Tryz.prog 108 #[.pointer (some ⟨b, 0, none⟩)] w fun e w' => e = .returned (.string ⟨l.toArray⟩) ∧ (Bld B b (Lib.byteCells l) w' ∧ Below B w w' ∧ Lib.OthersKept 5 (some b) w w') :=
  Tryz.Builder_String_any_k B b l w h hBw
end Go.Proofs.YtcbnefeedoabeaaGreatDoor
/- Contracts: isEscaped_any. -/
namespace Go.Proofs.YtcbnefeedoabeaaGreatDoor
open Go Go.RowKit

theorem isEscaped_any (r : Int) (w : World) : Calls Tryz.prog 106 #[.int .i32 r] w fun e w' => e = .returned (.bool (escB r)) ∧ w = w' := by
  go_enter Tryz.func106, Tryz.ntmps106
  go_wp2
  all_goals
    go_ret
    refine ⟨?_, rfl⟩
    first
      | rfl
      | (unfold escB
         simp_all)
end Go.Proofs.YtcbnefeedoabeaaGreatDoor
/- Contracts: quote_bad, quote_loop. -/
namespace Go.Proofs.YtcbnefeedoabeaaGreatDoor
open Go Go.RowKit Go.Shelf

set_option maxHeartbeats 8000000 in
set_option maxRecDepth 100000 in
theorem quote_loop (s : ByteArray) (w : World) (hv : validB s = true) (hT : Tabs w) :
    Calls Tryz.prog 65 #[.string s] w fun e w' => e = .returned (.tuple #[.string ⟨(quoteL s.data.toList).toArray⟩, .int .i64 0]) ∧ Below w.heap.size w w' := by
  have hs : s.size ≤ 200 := by simp only [validB, Bool.and_eq_true, decide_eq_true_eq] at hv; exact hv.1.1
  have hd : Lib.validD s.data.toList = true := by simp only [validB, Bool.and_eq_true] at hv; exact hv.1.2
  replace hd := Lib.hid hd
  go_enter Tryz.func65, Tryz.ntmps65
  go_wp2_with (go_at_call 104; refine (valid_any _ _ (by omega) hT).mono ?_; rintro e w0 ⟨rfl, hb0⟩)
  have hz0 := hb0.size
  have hfresh : Bld w0.heap.size w0.heap.size (Lib.byteCells []) (w0.alloc (.cells #[.pointer none, .slice none 0 0] 143)) := Lib.IsBuilderF.of (Lib.fresh_isBuilder 143 5 w0)
  go_wp2_with (go_at_call 105; refine (writeByte_k w0.heap.size w0.heap.size _ 34 _ hfresh (by simp [Lib.byteCells_length]) (by simp)).mono ?_)
  rintro e w1 ⟨rfl, h1, b1, k1⟩
  have hb1 : Below w.heap.size w w1 := (hb0.alloc hz0 _).trans (b1.mono hz0)
  have hz1 : w0.heap.size + 1 ≤ w1.heap.size := by have := b1.size; simpa using this
  go_wp2
  go_loopw [] (fun wr => ∃ pos : Nat, pos ≤ s.size ∧ Lib.validD (s.data.toList.drop pos) = true ∧ Bld w0.heap.size w0.heap.size (Lib.byteCells (34 :: escL (s.data.toList.take pos))) wr ∧ wr.heap[w1.heap.size]? = some (.stringIter s pos) ∧ Below w.heap.size w wr) (fun wr => s.size - wr.iterPos w1.heap.size)
  case atStart =>
    refine ⟨0, Nat.zero_le _, by simpa using hd.out, (Lib.IsBuilderF.alloc (Or.inr h1) _), ?_, hb1.alloc (by omega) _⟩
    simpa using World.iter_heap w1 s 0
  case round =>
    obtain ⟨pos, hpos, hvd, hI, hit, hbw⟩ := hrel
    have hsz : w1.heap.size < wr.heap.size := (Array.getElem?_eq_some_iff.1 hit).1
    have hmea : wr.iterPos w1.heap.size = pos := by simp only [World.iterPos, hit]
    have hal := escL_length (s.data.toList.take pos)
    have hll : (s.data.toList.take pos).length ≤ pos := List.length_take_le _ _
    by_cases hp : pos < s.size
    · have hnx : ∀ ty, (Instr.next (.pointer (some ⟨w1.heap.size, 0, none⟩)) true ty).run Tryz.prog wr = _ := fun ty => Lib.run_next_any_at wr w1.heap.size s pos ty hit hp
      have hd1 := decode_le s pos
      have hfit := decode_fits s pos hp
      obtain ⟨hno, hnv⟩ := valid_at s pos hp hvd
      have hesc := esc_rune s pos hp hno
      have hI2 := hI.iterAt hit (pos + (Utf8.decode s pos).2)
      have hit2 := Lib.iterAt_heap wr w1.heap.size s pos (pos + (Utf8.decode s pos).2) hit
      have hbw2 := Lib.below_iterAt hbw (k := w1.heap.size) (by omega) s (pos + (Utf8.decode s pos).2)
      have hsz2 : w1.heap.size < (wr.iterAt w1.heap.size s (pos + (Utf8.decode s pos).2)).heap.size := by rw [Lib.iterAt_size]; exact hsz
      have hes := escB_rune s pos hp
      clear hno
      generalize (Utf8.decode s pos).1 = r at hnx hd1 hesc hes
      generalize (Utf8.decode s pos).2 = wd at hnx hfit hit2 hbw2 hnv hesc hI2 hsz2
      generalize hW1 : wr.iterAt w1.heap.size s (pos + wd) = W1 at hit2 hbw2 hnx hI2 hsz2
      replace hW1 := Lib.hid hW1
      replace hit := Lib.hid hit
      replace hmea := Lib.hid hmea
      replace hvd := Lib.hid hvd
      replace hnv := Lib.hid hnv
      replace hesc := Lib.hid hesc
      replace hit2 := Lib.hid hit2
      cases hb : isEsc (s.get! pos) with
      | true =>
        rw [hb] at hes
        have hesc' := hesc.out
        rw [hb, if_pos rfl] at hesc'
        replace hesc' := Lib.hid hesc'
        replace hb := Lib.hid hb
        go_wp2_with (first
          | (go_at_call 106; refine (isEscaped_any _ _).mono ?_; rintro e w' ⟨rfl, rfl⟩)
          | (go_at_call 105; refine (writeByte_k w0.heap.size w0.heap.size _ 92 _ hI2 (by rw [Lib.byteCells_length]; simp; omega) (by omega)).mono ?_; rintro e W2 ⟨rfl, h2, b2, k2⟩))
        have hz2 := b2.size
        go_wp2_with (go_at_call 107; refine (writeRune_k w0.heap.size w0.heap.size _ _ (by omega) (by omega) _ (Or.inr h2) (by rw [List.length_append, Lib.byteCells_length]; simp; omega) (by omega)).mono ?_; rintro e W3 ⟨rfl, h3, b3, k3⟩)
        have hit3 := k3.iter (k2.iter hit2.out (by omega)) (by omega)
        go_wp2
        go_roundw
        case rel =>
          refine ⟨pos + wd, hfit.2, hnv.out, ?_, hit3, (hbw2.trans (b2.mono hz0)).trans (b3.mono hz0)⟩
          rw [hesc'.out]
          have e1 : Lib.byteCells (34 :: (escL (s.data.toList.take pos) ++ ([92] ++ Lib.encodeRune (r : Nat)))) = Lib.byteCells (34 :: escL (s.data.toList.take pos)) ++ [Value.int .u8 92] ++ Lib.runeCells (r : Nat) := by
            rw [← Lib.byteCells_encodeRune, ← List.cons_append, Lib.byteCells_append, Lib.byteCells_append, ← List.append_assoc]
            rfl
          rw [e1]
          exact Or.inr h3
        case measure =>
          rw [hmea.out]
          simp only [World.iterPos, hit3]
          omega
      | false =>
        rw [hb] at hes
        have hesc' := hesc.out
        rw [hb, if_neg (by simp), List.nil_append] at hesc'
        replace hesc' := Lib.hid hesc'
        replace hb := Lib.hid hb
        go_wp2_with (first
          | (go_at_call 106; refine (isEscaped_any _ _).mono ?_; rintro e w' ⟨rfl, rfl⟩)
          | (go_at_call 107; refine (writeRune_k w0.heap.size w0.heap.size _ _ (by omega) (by omega) _ hI2 (by rw [Lib.byteCells_length]; simp; omega) (by omega)).mono ?_; rintro e W3 ⟨rfl, h3, b3, k3⟩))
        have hit3 := k3.iter hit2.out (by omega)
        go_wp2
        go_roundw
        case rel =>
          refine ⟨pos + wd, hfit.2, hnv.out, ?_, hit3, hbw2.trans (b3.mono hz0)⟩
          rw [hesc'.out]
          have e1 : Lib.byteCells (34 :: (escL (s.data.toList.take pos) ++ Lib.encodeRune (r : Nat))) = Lib.byteCells (34 :: escL (s.data.toList.take pos)) ++ Lib.runeCells (r : Nat) := by
            rw [← Lib.byteCells_encodeRune, ← List.cons_append, Lib.byteCells_append]
          rw [e1]
          exact Or.inr h3
        case measure =>
          rw [hmea.out]
          simp only [World.iterPos, hit3]
          omega
    · obtain rfl : pos = s.size := by omega
      have hnx : ∀ ty, (Instr.next (.pointer (some ⟨w1.heap.size, 0, none⟩)) true ty).run Tryz.prog wr = _ := fun ty => Lib.run_next_end_at wr w1.heap.size s s.size ty hit hp
      replace hit := Lib.hid hit
      replace hmea := Lib.hid hmea
      replace hvd := Lib.hid hvd
      have hfull : s.data.toList.take s.size = s.data.toList := List.take_of_length_le (Nat.le_refl _)
      rw [hfull] at hI hal
      have hln : s.data.toList.length = s.size := rfl
      replace hfull := Lib.hid hfull
      go_wp2_with (first
        | (go_at_call 105; refine (writeByte_k w0.heap.size w0.heap.size _ 34 _ hI (by rw [Lib.byteCells_length]; simp; omega) (by omega)).mono ?_; rintro e W2 ⟨rfl, h2, b2, k2⟩))
      have hz2 := b2.size
      have e2 : Lib.byteCells (34 :: escL s.data.toList) ++ [Value.int .u8 34] = Lib.byteCells (quoteL s.data.toList) := by
        unfold quoteL
        rw [← List.cons_append, Lib.byteCells_append]
        rfl
      rw [e2] at h2
      replace e2 := Lib.hid e2
      go_wp2_with (go_at_call 108; refine (string_k w0.heap.size w0.heap.size _ _ (Or.inr h2) (by omega)).mono ?_; rintro e W3 ⟨rfl, h3, b3, k3⟩)
      go_ret2
      exact ⟨rfl, (hbw.trans (b2.mono hz0)).trans (b3.mono hz0)⟩

theorem quote_bad (s : ByteArray) (w : World) (hm : s.size ≤ 9223372036854775807) (hv : validB s = false) (hT : Tabs w) :
    Calls Tryz.prog 65 #[.string s] w fun e w' => e = .returned (.tuple #[.string ⟨#[]⟩, .int .i64 2]) ∧ Below w.heap.size w w' := by
  go_enter Tryz.func65, Tryz.ntmps65
  go_wp2_with (go_at_call 104; refine (valid_any _ _ hm hT).mono ?_; rintro e w0 ⟨rfl, hb0⟩)
  go_ret2
  exact ⟨rfl, hb0⟩
end Go.Proofs.YtcbnefeedoabeaaGreatDoor
/- Contract of strings.Join at short texts and a comma. -/
namespace Go.Proofs.YtcbnefeedoabeaaGreatDoor
open Go Go.RowKit Go.Shelf

set_option maxHeartbeats 8000000 in
set_option maxRecDepth 100000 in
theorem join_comma (bk cap : Nat) (xs : List ByteArray) (w : World) (h20 : xs.length ≤ 20) (hx : ∀ s ∈ xs, s.size ≤ 440) (hcap : xs.length ≤ cap)
    (hc : ∀ i (h : i < xs.length), w.cell? ⟨bk, i, none⟩ = some (.string xs[i])) (hbk : bk < w.heap.size) :
    Calls Tryz.prog 66 #[.slice (some ⟨bk, 0, none⟩) xs.length cap, .string ⟨#[44]⟩] w fun e w' => e = .returned (.string ⟨(joinS [44] xs xs.length).toArray⟩) ∧ Below w.heap.size w w' := by
  obtain ⟨m, hm⟩ : ∃ m, xs.length = m := ⟨_, rfl⟩
  rw [hm] at h20 hcap ⊢
  by_cases h0 : m = 0
  · subst h0
    go_enter Tryz.func66, Tryz.ntmps66
    go_wp2
    go_ret
    exact ⟨rfl, Below.refl _ _⟩
  · by_cases h1 : m = 1
    · subst h1
      have c0 := hc 0 (by omega)
      have hj : joinS [44] xs 1 = (xs[0]'(by omega)).data.toList := by
        simp [joinS, show 0 < xs.length by omega]
      rw [hj]
      replace hc := Lib.hid hc
      obtain ⟨s, hs⟩ : ∃ s, xs[0]'(by omega) = s := ⟨_, rfl⟩
      rw [hs] at c0 ⊢
      replace hs := Lib.hid hs
      have he : (⟨s.data.toList.toArray⟩ : ByteArray) = s := eta s
      rw [he]
      replace he := Lib.hid he
      clear hj
      go_enter Tryz.func66, Tryz.ntmps66
      go_wp2
      go_ret
      exact ⟨rfl, Below.refl _ _⟩
    · have h2 : 2 ≤ m := by omega
      have h2' : (2 : Int) ≤ (m : Int) := by omega
      have h20' : (m : Int) ≤ 20 := by omega
      have hne0 : ((m : Int) == 0) = false := by rw [beq_eq_false_iff_ne]; omega
      have hne1 : ((m : Int) == 1) = false := by rw [beq_eq_false_iff_ne]; omega
      have hd0 : ¬ (m : Int) - 1 = 0 := by omega
      obtain ⟨q, hq⟩ : ∃ q, (9223372036854775807 : Int).tdiv ((m : Int) - 1) = q := ⟨_, rfl⟩
      have hq2 : 100 ≤ q := by
        rw [← hq, Int.tdiv_eq_ediv_of_nonneg (by omega)]
        exact Int.le_ediv_of_mul_le (by omega) (by omega)
      have hq3 : q ≤ 9223372036854775807 := by
        rw [← hq, Int.tdiv_eq_ediv_of_nonneg (by omega)]
        exact Int.ediv_le_self _ (by omega)
      clear h0 h1
      replace hc := Lib.hid hc
      replace hx := Lib.hid hx
      go_enter Tryz.func66, Tryz.ntmps66
      go_wp2
      go_loop [5, 7, 41] (fun a _ i => ∃ (k T : Nat), k ≤ m ∧ T ≤ 40 + 440 * k ∧ a = .int .i64 T ∧ i = .int .i64 k) (fun _ _ i => m - (intOf i).toNat)
      case atStart => exact ⟨0, (m - 1), by omega, by omega, by go_num, rfl⟩
      case round =>
        obtain ⟨k, T, hk, hT, rfl, rfl⟩ := hrel
        by_cases hlt : k < m
        · have hlt' : (k : Int) < (m : Int) := by omega
          have c0 := hc.out k (by omega)
          have hz := hx.out _ (List.getElem_mem (show k < xs.length by omega))
          obtain ⟨s, hs⟩ : ∃ s, xs[k]'(by omega) = s := ⟨_, rfl⟩
          rw [hs] at c0 hz
          replace hs := Lib.hid hs
          have hz' : (s.size : Int) ≤ 440 := by omega
          have hT' : (T : Int) ≤ 10000 := by omega
          clear hq hq2 hq3
          go_wp2
          go_round
          case rel => exact ⟨k + 1, T + s.size, by omega, by omega, by go_num, by go_num⟩
          case measure => simp [intOf]; omega
        · obtain rfl : k = m := by omega
          have hlt' : ¬ (k : Int) < (k : Int) := by omega
          have hT1 : T ≤ 10000 := by omega
          clear hq hq2 hq3 hT hk
          have c0 := hc.out 0 (by omega)
          have hz := hx.out _ (List.getElem_mem (show 0 < xs.length by omega))
          have hfresh : (w.alloc (.cells #[.pointer none, .slice none 0 0] 143)).heap[w.heap.size]? = some (.cells #[.pointer none, .slice none 0 0] 143 (0, 0)) := heap_alloc_new w _
          have hgr := Lib.hid (Tryz.Builder_Grow_fresh w.heap.size w.heap.size T (w.alloc (.cells #[.pointer none, .slice none 0 0] 143)) (Nat.le_refl _) hfresh (by simp) (by omega))
          have hb0 : Below w.heap.size w (w.alloc (.cells #[.pointer none, .slice none 0 0] 143)) := (Below.refl _ w).alloc (Nat.le_refl _) _
          obtain ⟨s, hs⟩ : ∃ s, xs[0]'(by omega) = s := ⟨_, rfl⟩
          rw [hs] at c0 hz
          have hj1 : Lib.byteCells (joinS [44] xs 1) = [] ++ Lib.strCells s := by
            have : xs.getD 0 ByteArray.empty = s := by rw [← hs]; simp [List.getD, show 0 < xs.length by omega]
            show Lib.byteCells ([] ++ (xs.getD 0 ByteArray.empty).data.toList) = _
            rw [this, List.nil_append]
            rfl
          replace hs := Lib.hid hs
          replace hj1 := Lib.hid hj1
          have hm1 : (1 : Int) ≤ (k : Int) := by omega
          have hkc : (k : Int) ≤ (cap : Int) := by omega
          go_wp2_with (first
            | (go_at_call 109; refine hgr.out.mono ?_; rintro e w1 ⟨rfl, h1, b1⟩; have hb1 := hb0.trans b1; have c1 := (hb1.cell (p := ⟨bk, 0, none⟩) hbk).trans c0)
            | (go_at_call 110; refine (writeString_k w.heap.size w.heap.size _ s _ (Or.inr (Lib.BuilderAtF.of h1)) (by simp; omega) hb1.size).mono ?_; rintro e w2 ⟨rfl, h2, b2, k2⟩))
          have hb2 := hb1.trans b2
          rw [← hj1.out] at h2
          clear c1 b1 b2 k2 h1 hgr hb0 hb1 hfresh c0 hz
          have hz2 := hb2.size
          go_wp2
          go_loopw [10, 65] (fun _ i wr => ∃ n : Nat, 1 ≤ n ∧ n ≤ k ∧ i = .int .i64 ((n : Int) - 1) ∧ Bld w.heap.size w.heap.size (Lib.byteCells (joinS [44] xs n)) wr ∧ Below w.heap.size w wr) (fun _ i _ => k - (intOf i).toNat)
          case atStart => exact ⟨1, Nat.le_refl _, by omega, by go_num, Or.inr h2, hb2⟩
          case round =>
            obtain ⟨n, hn1, hnk, rfl, hB, hbw⟩ := hrel
            clear hb2 hz2 h2
            have hjs : (joinS [44] xs n).length ≤ 441 * n := joinS_size [44] 440 xs hx.out n (by omega)
            by_cases hlt2 : n < k
            · have hlt3 : (n : Int) - 1 < (k : Int) - 1 := by omega
              obtain ⟨s2, hs2⟩ : ∃ s2, xs[n]'(by omega) = s2 := ⟨_, rfl⟩
              have c2 := (hbw.cell (p := ⟨bk, n, none⟩) hbk).trans (hc.out n (by omega))
              have hz3 := hx.out _ (List.getElem_mem (show n < xs.length by omega))
              rw [hs2] at c2 hz3
              have hj2 : Lib.byteCells (joinS [44] xs (n + 1)) = (Lib.byteCells (joinS [44] xs n) ++ Lib.strCells ⟨#[44]⟩) ++ Lib.strCells s2 := by
                have : xs.getD n ByteArray.empty = s2 := by rw [← hs2]; simp [List.getD, show n < xs.length by omega]
                show Lib.byteCells ((if n = 0 then [] else joinS [44] xs n ++ [44]) ++ (xs.getD n ByteArray.empty).data.toList) = _
                rw [this, if_neg (by omega), Lib.byteCells_append, Lib.byteCells_append]
                rfl
              obtain ⟨d, rfl⟩ : ∃ d, n = d + 1 := ⟨n - 1, by omega⟩
              replace hs2 := Lib.hid hs2
              replace hj2 := Lib.hid hj2
              have hbs := hbw.size
              have e1 : ((d + 1 : Nat) : Int) - 1 = (d : Int) := by omega
              have hd1 : (d : Int) < (k : Int) - 1 := by omega
              rw [e1]
              have c3 : wr.cell? ⟨bk, 1 + d, none⟩ = some (.string s2) := by rw [Nat.add_comm 1 d]; exact c2
              have hlt4 : d + 1 < k := hlt2
              clear e1 hlt3 hn1 hbk hs2
              go_wp2_with (go_at_call 110; refine (writeString_k w.heap.size w.heap.size _ ⟨#[44]⟩ _ hB (by rw [Lib.byteCells_length]; show _ + 1 ≤ _; omega) hbs).mono ?_)
              rintro e w3 ⟨rfl, h3, b3, k3⟩
              have hbs3 := Nat.le_trans hbs b3.size
              go_wp2_with (go_at_call 110; refine (writeString_k w.heap.size w.heap.size _ s2 _ (Or.inr h3) (by rw [List.length_append, Lib.byteCells_length, Lib.strCells_length]; show _ + 1 + _ ≤ _; omega) hbs3).mono ?_)
              rintro e w4 ⟨rfl, h4, b4, k4⟩
              go_wp2
              go_roundw
              case rel => exact ⟨d + 1 + 1, by omega, by omega, by go_num, by rw [hj2.out]; exact Or.inr h4, (hbw.trans b3).trans b4⟩
              case measure => simp [intOf]; omega
            · obtain rfl : n = k := by omega
              have hlt3 : ¬ (n : Int) - 1 < (n : Int) - 1 := by omega
              have hbs := hbw.size
              go_wp2_with (go_at_call 108; refine (string_k w.heap.size w.heap.size (joinS [44] xs n) _ hB hbs).mono ?_; rintro e w3 ⟨rfl, h3, b3, k3⟩)
              go_ret
              exact ⟨rfl, hbw.trans b3⟩
end Go.Proofs.YtcbnefeedoabeaaGreatDoor
/- Contracts of package subject's Canonical and of the document's answer for it. -/
namespace Go.Proofs.YtcbnefeedoabeaaGreatDoor
open Go Go.RowKit

theorem run_makeTexts (w : World) (n : Nat) (h : n ≤ 1000) : (Instr.makeSlice 39 (.int .i64 (n : Int)) (.int .i64 (n : Int))).run Tryz.prog w = .ok (.slice (some ⟨w.heap.size, 0, none⟩) n n) (w.alloc (.cells (madeCells #[.string ⟨#[]⟩] n) 9)) := by
  obtain ⟨i0, hi, hz0, hz1, hz2⟩ := info_parts infoText
  have := run_make (P := Tryz.prog) w 39 9 i0 (.string ⟨#[]⟩) Tryz.underlying39 hi hz0 .i64 .i64 (n : Int) (n : Int) (by omega) (Int.le_refl _) (by rw [hz2]; omega) (by omega)
  rw [hz1] at this
  simpa [Value.cells] using this
/-- A row of the call's own that is being filled with texts. -/
structure Filling (g n : Nat) (xs : List ByteArray) (wr : World) : Prop where
  lt : g < wr.heap.size
  done : ∀ i (_ : i < n) (h : i < xs.length), wr.cell? ⟨g, i, none⟩ = some (.string xs[i])
  todo : ∀ i, i < xs.length → ∃ v, wr.cell? ⟨g, i, none⟩ = some v
  free : ∀ i, wr.frozen? ⟨g, i, none⟩ = false
theorem Filling.start (xs : List ByteArray) (w : World) : Filling w.heap.size 0 xs (w.alloc (.cells (madeCells #[.string ⟨#[]⟩] xs.length) 9)) := by
  refine ⟨by simp, fun i hi => by omega, fun i hi => ?_, Lib.frozen_of_heap (heap_alloc_new w _)⟩
  rw [Lib.cell_of_heap (heap_alloc_new w _)]
  exact ⟨_, Array.getElem?_eq_getElem (by rw [size_madeCells]; exact hi)⟩
theorem Filling.below {g n : Nat} {xs : List ByteArray} {w w' : World} (h : Filling g n xs w) (hb : Below w.heap.size w w') : Filling g n xs w' := by
  have hk := hb.block g h.lt
  refine ⟨Nat.lt_of_lt_of_le h.lt hb.size, fun i hi hl => ?_, fun i hi => ?_, fun i => ?_⟩
  · rw [hb.cell (p := ⟨g, i, none⟩) h.lt]; exact h.done i hi hl
  · rw [hb.cell (p := ⟨g, i, none⟩) h.lt]; exact h.todo i hi
  · rw [World.frozen?_of_block (w := w) (a := ⟨g, i, none⟩) hk]; exact h.free i
theorem Filling.put {g n : Nat} {xs : List ByteArray} {wr : World} (h : Filling g n xs wr) (hn : n < xs.length) (s : ByteArray) (hs : xs[n] = s) : Filling g (n + 1) xs (wr.setCell ⟨g, n, none⟩ (.string s)) := by
  have hnew : (wr.setCell ⟨g, n, none⟩ (.string s)).cell? ⟨g, n, none⟩ = some (.string s) := by
    obtain ⟨v0, h0⟩ := h.todo n hn
    exact World.cell?_setCell_same _ _ _ h0
  have hold : ∀ i, i ≠ n → (wr.setCell ⟨g, n, none⟩ (.string s)).cell? ⟨g, i, none⟩ = wr.cell? ⟨g, i, none⟩ := fun i hi => World.cell?_setCell_other wr _ _ _ (fun e => hi (by injection e with _ e2; exact e2.symm))
  refine ⟨by simpa using h.lt, fun i hi hl => ?_, fun i hi => ?_, fun i => ?_⟩
  · by_cases he : i = n
    · subst he; rw [hnew, hs]
    · rw [hold i he]; exact h.done i (by omega) hl
  · by_cases he : i = n
    · subst he; exact ⟨_, hnew⟩
    · rw [hold i he]; exact h.todo i hi
  · simpa using h.free i
theorem part_add (kd ky : ByteArray) (at_ : List Attr) : kd ++ ⟨#[58]⟩ ++ ⟨(quoteL ky.data.toList).toArray⟩ = partB ⟨kd, ky, at_⟩ := by
  apply ByteArray.ext
  apply Array.toList_inj.1
  rw [append_data, append_data]
  show (kd.data.toList ++ [58]) ++ quoteL ky.data.toList = kd.data.toList ++ 58 :: quoteL ky.data.toList
  simp
theorem quoteL_size {s : ByteArray} (h : validB s = true) : (quoteL s.data.toList).length ≤ 402 := by
  have hs : s.size ≤ 200 := by simp only [validB, Bool.and_eq_true, decide_eq_true_eq] at h; exact h.1.1
  have := escL_length s.data.toList
  have hl : s.data.toList.length = s.size := rfl
  unfold quoteL
  simp
  omega
theorem part_size {x : Ctx} (h : GoodC x) : (partB x).size ≤ 440 := by
  have h1 := quoteL_size h.key
  have h2 := h.kind
  have hl : x.kind.data.toList.length = x.kind.size := rfl
  show (partL x).toArray.size ≤ 440
  rw [List.size_toArray]
  unfold partL
  rw [List.length_append, List.length_cons]
  omega
set_option maxHeartbeats 8000000 in
theorem canonical_any {P : Nat → Prop} (a0 : Option Addr) (cp : Nat) (l : List Ctx) (w : World) (E : Env w) (hA : CtxsP P a0 cp l w) (hF : ∀ x ∈ l, FitC x) (hl : l.length ≤ 9223372036854775000) :
    Calls Tryz.prog 28 #[.agg #[.slice a0 (l.length : Nat) cp]] w fun e w' => e = .returned (.tuple #[.string (canonP l).1, .int .i64 (canonP l).2]) ∧ Below w.heap.size w w' := by
  have hb0 := (Below.refl w.heap.size w).alloc (Nat.le_refl _) (.cells #[.slice a0 (l.length : Nat) cp] 25)
  have hck := Lib.hid (check_subject a0 cp l _ (E.below hb0) (hA.same (SameB.of_below hb0)) hF hl)
  by_cases h0 : subjE l = 0
  · have hp : canonP l = (⟨(canonL l).toArray⟩, 0) := if_pos h0
    obtain ⟨hl4, hgood⟩ := good_all h0
    rw [hp]
    rw [h0] at hck
    simp only
    replace hp := Lib.hid hp
    replace h0 := Lib.hid h0
    have hcan : canonL l = joinS [44] (l.map partB) (l.map partB).length := by unfold canonL; rw [List.length_map]
    rw [hcan]
    have hxl : (l.map partB).length = l.length := List.length_map ..
    have hxs : ∀ s ∈ l.map partB, s.size ≤ 440 := by
      intro s hs
      obtain ⟨x, hx, rfl⟩ := List.mem_map.1 hs
      exact part_size (hgood x hx)
    have hat : ∀ n (h : n < l.length), (l.map partB)[n]'(by rw [hxl]; exact h) = partB l[n] := fun n h => by simp
    generalize l.map partB = xs at hxl hxs hat ⊢
    replace hcan := Lib.hid hcan
    obtain ⟨js, hjs⟩ : ∃ js, joinS [44] xs xs.length = js := ⟨_, rfl⟩
    rw [hjs]
    replace hjs := Lib.hid hjs
    have hmk := fun W => run_makeTexts W l.length (by omega)
    have hst := fun W => Filling.start xs W
    rw [hxl] at hst
    replace hst := Lib.hid hst
    replace hat := Lib.hid hat
    replace hxs := Lib.hid hxs
    go_enter Tryz.func28, Tryz.ntmps28
    go_wp2_with (go_at_call 29; refine hck.out.mono ?_; rintro e w1 ⟨rfl, hb1⟩; have hz1 := box_heap hb1; have hw1 := box_below (Below.refl w.heap.size w) (Nat.le_refl _) hb1; have s0 : w1.cell? ⟨w.heap.size, 0, none⟩ = some (.slice a0 l.length cp) := (by rw [Lib.cell_of_heap hz1]; rfl); have hb2 := (Below.refl w1.heap.size w1).alloc (Nat.le_refl _) (.cells (madeCells #[.string ⟨#[]⟩] l.length) 9); have s1 : (w1.alloc (.cells (madeCells #[.string ⟨#[]⟩] l.length) 9)).cell? ⟨w.heap.size, 0, none⟩ = some (.slice a0 l.length cp) := (hb2.cell (p := ⟨w.heap.size, 0, none⟩) (Array.getElem?_eq_some_iff.1 hz1).1).trans s0)
    have hw2 := hw1.trans (hb2.mono hw1.size)
    have hfl := hst.out w1
    have hg : w.heap.size ≤ w1.heap.size := hw1.size
    clear hmk hst hck hb0 hb1 hz1 hw1 s0 hb2 s1
    generalize w1.alloc (.cells (madeCells #[.string ⟨#[]⟩] l.length) 9) = w2 at hw2 hfl ⊢
    generalize w1.heap.size = g at hfl hg ⊢
    go_loopw [22] (fun i wr => ∃ n : Nat, n ≤ l.length ∧ i = .int .i64 n ∧ Filling g n xs wr ∧ Below w.heap.size w wr) (fun i _ => l.length - (intOf i).toNat)
    case atStart => exact ⟨0, Nat.zero_le _, rfl, hfl, hw2⟩
    case round =>
      obtain ⟨n, hn, rfl, hfi, hbl⟩ := hrel
      clear hfl hw2
      by_cases hlt : n < l.length
      · obtain ⟨b, off, rfl, hP, hbk, hat1⟩ := hA.at_ n hlt
        obtain ⟨q0, q1, pp, cc, q2, q5⟩ := hat1.same (SameB.of_below (P := P) hbl) hP hbk
        have hG := hgood l[n] (List.getElem_mem hlt)
        have hxn := hat.out n hlt
        have hlt' : (n : Int) < (l.length : Int) := by omega
        have Er := E.below hbl
        obtain ⟨x, hx⟩ : ∃ x, l[n] = x := ⟨_, rfl⟩
        rw [hx] at q0 q1 q2 q5 hG hxn
        replace hx := Lib.hid hx
        obtain ⟨kd, ky, at_⟩ := x
        obtain ⟨g1, g2, g3, g4, _⟩ := hG
        simp only at q0 q1 q2 q5 g2 g4
        have hps := quoteL_size g4
        have hq := fun W (h : Env W) => quote_loop ky W g4 h.tabs
        have hadd := part_add kd ky at_
        rw [← hxn] at hadd
        have hbox := (Below.refl wr.heap.size wr).alloc (Nat.le_refl _) (.cells #[.string kd, .string ky, .slice pp (at_.length : Nat) cc] 63)
        have hfi1 := hfi.below hbox
        obtain ⟨qs, hqs⟩ : ∃ qs : ByteArray, (⟨(quoteL ky.data.toList).toArray⟩ : ByteArray) = qs := ⟨_, rfl⟩
        rw [hqs] at hq hadd
        have hqz : qs.size ≤ 402 := by rw [← hqs]; show (quoteL ky.data.toList).toArray.size ≤ 402; rw [List.size_toArray]; exact hps
        replace hq := Lib.hid hq
        replace hadd := Lib.hid hadd
        replace hxn := Lib.hid hxn
        replace hqs := Lib.hid hqs
        replace hgood := Lib.hid hgood
        clear hps g4 g1 g3
        have hkz : kd.size + 1 + qs.size ≤ 500 := by omega
        go_wp2_with (go_at_call 65; refine (hq.out _ (Er.below hbox)).mono ?_; rintro e w3 ⟨rfl, hb3⟩; have hz3 := box_heap hb3; have hw3 := box_below (Below.refl wr.heap.size wr) (Nat.le_refl _) hb3; have k0 : w3.cell? ⟨wr.heap.size, 0, none⟩ = some (.string kd) := (by rw [Lib.cell_of_heap hz3]; rfl); have hf3 := hfi.below hw3; have hfz := hf3.free n; obtain ⟨v0, hv0⟩ := hf3.todo n (by omega))
        go_roundw
        case rel => exact ⟨n + 1, by omega, by go_num, hf3.put (by omega) _ hadd.out.symm, (hbl.trans (hw3.mono hbl.size)).setCell (p := ⟨g, n, none⟩) hg _⟩
        case measure => simp [intOf]; omega
      · obtain rfl : n = l.length := by omega
        have hlt' : ¬ (l.length : Int) < (l.length : Int) := by omega
        have hj := join_comma g l.length xs wr (by omega) hxs.out (by omega) (fun i h => hfi.done i (by omega) h) hfi.lt
        rw [hjs.out, hxl] at hj
        replace hj := Lib.hid hj
        go_wp2_with (go_at_call 66; refine hj.out.mono ?_; rintro e w4 ⟨rfl, hb4⟩)
        go_ret2
        exact ⟨rfl, hbl.trans (hb4.mono hbl.size)⟩
  · have hp : canonP l = (⟨#[]⟩, subjE l) := if_neg h0
    rw [hp]
    simp only
    have hne : (subjE l != 0) = true := by simpa using h0
    replace hp := Lib.hid hp
    replace h0 := Lib.hid h0
    generalize subjE l = r at hck hne ⊢
    go_enter Tryz.func28, Tryz.ntmps28
    go_wp2_with (go_at_call 29; refine hck.out.mono ?_; rintro e w1 ⟨rfl, hb1⟩; have hw1 := box_below (Below.refl w.heap.size w) (Nat.le_refl _) hb1)
    go_ret2
    exact ⟨rfl, hw1⟩
end Go.Proofs.YtcbnefeedoabeaaGreatDoor
