/- Contracts of the library on strings: Index, CutPrefix. Rows of texts that a call owns: appended to. Contract of strings.SplitN at three pieces and a period: the pieces lie in a new block. Contracts: parse_any. Contract of package value's parts of a version. Contracts of package value's test of a value's fields. Contracts: valid_any, valid_loop. Contracts of package value's check of a list of texts, of a value's content, and of a value. -/
import Derived.Test.YtcbnefeedoabeaaGreatDoorProg
import Derived.Test.YtcbnefeedoabeaaGreatDoorPa
import Derived.Lib.Strings
import Derived.Lib.Slices
import Derived.Lib.Small
import Derived.Lib.Walk
import Derived.Lib.Bytealg
import Derived.Laws.AppendOwn
import Derived.Laws.AppendOwnNone
import Derived.Lib.Split
import Derived.Deep.OwnRows
import Derived.Test.YtcbnefeedoabeaaGreatDoorPb
import Derived.Test.YtcbnefeedoabeaaGreatDoorShelf
import Derived.Test.YtcbnefeedoabeaaGreatDoorPc
import Derived.BigRegion
import Derived.Deep.RegionWith
import Derived.Deep.DeepFit
import Derived.IntWalk
import Derived.Deep.DeepCutAuto
import Derived.Laws.Cover1
import Derived.Sort.Walk0
/- Contracts of the library on strings: Index, CutPrefix. -/
namespace Go.Proofs.YtcbnefeedoabeaaGreatDoor
open Go Go.RowKit

set_option maxRecDepth 100000 in
theorem indexByte_any (s : ByteArray) (c : UInt8) (w : World) :
    Calls Tryz.prog 180 #[.string s, .int .u8 (c.toNat : Int)] w fun e w' => e = .returned (.int .i64 (Lib.indexByte s.data.toList c)) ∧ w' = w := by
  have hc : ((c.toNat : Int)).toNat.toUInt8 = c := by simp
  go_enter Tryz.func180, Tryz.ntmps180
  go_wp2
  rw [run_callFunc_extern Tryz.func184 (by kernel_rfl) (by kernel_rfl) (by kernel_rfl) (e := Extern.BytealgIndexByte.indexByte) (by kernel_rfl), Lib.run_indexByteString, hc]
  simp only [Result.andThen]
  rw [Oper.upon_value]
  go_wp2
  go_ret
  exact ⟨rfl, rfl⟩
set_option maxRecDepth 100000 in
set_option maxHeartbeats 2000000 in
theorem sliteIndex_any (s : ByteArray) (c : UInt8) (w : World) :
    Calls Tryz.prog 177 #[.string s, .string ⟨#[c]⟩] w fun e w' => e = .returned (.int .i64 (Lib.indexByte s.data.toList c)) ∧ w' = w := by
  go_enter Tryz.func177, Tryz.ntmps177
  go_wp2_with (go_at_call 180; refine (indexByte_any _ _ _).mono ?_; rintro e w' ⟨rfl, rfl⟩)
  · have h : ([c] == s.toList) = true := by assumption
    go_ret
    refine ⟨?_, rfl⟩
    have e : s.data.toList = [c] := by rw [← Lib.toList_data]; exact (beq_iff_eq.1 h).symm
    rw [e]
    simp [Lib.indexByte]
  · go_ret
    exact ⟨rfl, rfl⟩
theorem index_any (s : ByteArray) (c : UInt8) (w : World) :
    Calls Tryz.prog 172 #[.string s, .string ⟨#[c]⟩] w fun e w' => e = .returned (.int .i64 (Lib.indexByte s.data.toList c)) ∧ w' = w := by
  go_enter Tryz.func172, Tryz.ntmps172
  go_wp2_with (go_at_call 177; refine (sliteIndex_any _ _ _).mono ?_; rintro e w' ⟨rfl, rfl⟩)
  go_ret
  exact ⟨rfl, rfl⟩
set_option maxHeartbeats 1000000 in
theorem cutPrefix_any (s p : ByteArray) (w : World) :
    Calls Tryz.prog 167 #[.string s, .string p] w fun e w' => e = .returned (.tuple #[.string ⟨(Lib.trimPrefix s.data.toList p.data.toList).toArray⟩, .bool (Lib.hasPrefix s.data.toList p.data.toList)]) ∧ w' = w := by
  go_enter Tryz.func167, Tryz.ntmps167
  go_wp2
  · have h2 : (!((s.extract 0 p.size).toList == p.toList)) = true := by assumption
    have h3 : (decide (p.size ≤ s.size) && ((s.extract 0 p.size).toList == p.toList)) = false := by
      have : ((s.extract 0 p.size).toList == p.toList) = false := by simpa using h2
      rw [this]
      simp
    go_ret2
    refine ⟨?_, rfl⟩
    rw [Lib.trimPrefix_miss s p h3, ← Lib.hasPrefix_raw, h3]
    rfl
  · have h1 : p.size ≤ s.size := by assumption
    have h2 : (!((s.extract 0 p.size).toList == p.toList)) = false := by assumption
    have h2' : ((s.extract 0 p.size).toList == p.toList) = true := by simpa using h2
    go_ret2
    refine ⟨?_, rfl⟩
    rw [Lib.trimPrefix_hit s p h1 h2', ← Lib.hasPrefix_raw, h2', decide_eq_true h1]
    rfl
  · have h1 : ¬ p.size ≤ s.size := by assumption
    have h3 : (decide (p.size ≤ s.size) && ((s.extract 0 p.size).toList == p.toList)) = false := by simp [h1]
    go_ret2
    refine ⟨?_, rfl⟩
    rw [Lib.trimPrefix_miss s p h3, ← Lib.hasPrefix_raw, h3]
    rfl
end Go.Proofs.YtcbnefeedoabeaaGreatDoor
/- Rows of texts that a call owns: appended to. -/
namespace Go.Proofs.YtcbnefeedoabeaaGreatDoor
open Go Go.RowKit

theorem infoText : (Tryz.prog.info? 9).map (fun i => (i.zero, i.size, i.bytes)) = some (some (.string ⟨#[]⟩), 1, 16) := by kernel_rfl
def textCells (l : List ByteArray) : List Value := l.map Value.string
theorem textCells_length (l : List ByteArray) : (textCells l).length = l.length := by simp [textCells]
/-- The slice v is the call's own (its row in a block from B on) and holds these texts. -/
def OwnT (B : Nat) (v : Value) (l : List ByteArray) (w : World) : Prop := w.ownsRow B 9 1 v l.length (textCells l)
theorem ownT_nil (B : Nat) (w : World) : OwnT B (.slice none 0 0) [] w := World.ownsRow_nil w B _ 1
theorem addr_off (b off j : Nat) : (⟨b, off, none⟩ : Addr).add j = ⟨b, off + j, none⟩ := by
  unfold Addr.add
  split
  · rename_i h; subst h; rfl
  · rfl
theorem OwnT.texts {B : Nat} {v : Value} {l : List ByteArray} {w : World} (h : OwnT B v l w) : ∃ (a1 : Option Addr) (c1 : Nat), v = .slice a1 (l.length : Nat) c1 ∧ (a1 = none → c1 = 0) ∧ l.length ≤ c1 ∧
    ∀ i (hi : i < l.length), ∃ (b off : Nat), a1 = some ⟨b, off, none⟩ ∧ B ≤ b ∧ b < w.heap.size ∧ w.cell? ⟨b, off + i, none⟩ = some (.string l[i]) := by
  rcases h.2 with ⟨rfl, h0⟩ | ⟨g, cap, cur, rfl, hB, hg, hn, hc, hs, ht⟩
  · exact ⟨none, 0, by rw [h0], fun _ => rfl, by omega, fun i hi => by omega⟩
  · refine ⟨some ⟨g, 0, none⟩, cap, rfl, (by intro h; cases h), hn, fun i hi => ⟨g, 0, rfl, hB, (Array.getElem?_eq_some_iff.1 hg).1, ?_⟩⟩
    have h1 : cur.toList[i]? = some (.string l[i]) := by
      have := congrArg (fun x : List Value => x[i]?) ht
      simp only [Nat.mul_one, List.getElem?_take, hi, if_true] at this
      rw [this]
      simp [textCells, hi]
    rw [Lib.cell_of_heap hg]
    simpa using h1
set_option linter.unusedVariables false in
theorem wpList_ownT {ops : Array Oper} {rest : List Oper} {o : Oper} {a : Act} {Q : Exit → Act → World → Prop} (hgd : o.guard = none) (s x : Operand)
    (ho : o.op = .call { callee := .builtin .append, args := #[s, x], argTypes := #[39, 39] })
    {B : Nat} {v : Value} {l : List ByteArray} (m : List ByteArray) (a1 : Option Addr) (c1 : Nat) {w : World} (hown : OwnT B v l w) (hs : a.eval s = v) (hx : a.eval x = .slice a1 m.length c1)
    (hn : a1 = none → c1 = 0) (hm : TextsAre a1 m w) (hlen : l.length + m.length ≤ 1000000) (hB : B ≤ w.heap.size)
    (h : ∀ v' w', OwnT B v' (l ++ m) w' → Below B w w' → wpList Tryz.prog ops Q rest (a.put o.dst v') w') :
    wpList Tryz.prog ops Q (o :: rest) a w := by
  obtain ⟨i0, hi, hz0', hz1', hz2'⟩ := info_parts infoText
  cases a1 with
  | none =>
    have hm0 : m = [] := by
      cases m with
      | nil => rfl
      | cons c t => obtain ⟨b, off, he, _⟩ := hm 0 (by simp); cases he
    subst hm0
    rw [hn rfl] at hx
    refine wpList_append_own_none hgd s x 39 ho B 9 i0 1 Tryz.underlying39 hi v l.length _ hs hown hx ?_
    exact h v w (by rw [List.append_nil]; exact hown) (Below.refl _ _)
  | some ad =>
    refine wpList_append_own _ hgd s x 39 ho B 9 i0 (.string ⟨#[]⟩) 1 16 Tryz.underlying39 hi hz0' hz1' hz2' rfl (by decide) v l.length _ hs hown ad m.length c1 (textCells m) hx (by simp [textCells_length]) ?_ ?_ ?_ ?_ hB ?_
    · intro j u hj
      have hjl : j < m.length := by
        have := (List.getElem?_eq_some_iff.1 hj).1
        simpa [textCells_length] using this
      obtain ⟨b, off, he, hlt, hc⟩ := hm j hjl
      cases he
      rw [addr_off, hc]
      simpa [textCells, hjl] using hj
    · intro u hu
      simp only [textCells, List.mem_map] at hu
      obtain ⟨c, _, rfl⟩ := hu
      rfl
    · unfold maxLen; omega
    · omega
    · intro v' w' hown' hgrow _
      refine h v' w' ?_ ((Below.refl B w).grown hgrow hB (fun k hk => (hown.lt k hk).1))
      simpa [OwnT, textCells] using hown'
end Go.Proofs.YtcbnefeedoabeaaGreatDoor
/- Contract of strings.SplitN at three pieces and a period: the pieces lie in a new block. -/
namespace Go.Proofs.YtcbnefeedoabeaaGreatDoor
open Go Go.RowKit

theorem infoTextE : (Tryz.prog.info? 9).map (fun i => (i.zero, i.size, i.bytes)) = some (some (.string ByteArray.empty), 1, 16) := by kernel_rfl
theorem startAt_ge (s : ByteArray) : ∀ k, k ≤ startAt s k
  | 0 => Nat.zero_le _
  | k + 1 => by
    have h1 := startAt_ge s k
    have h2 := nextDot_ge s (startAt s k)
    show k + 1 ≤ nextDot s (startAt s k) + 1
    omega
def pieces (s : ByteArray) (i : Nat) : List ByteArray := (List.range i).map (segAt s)
theorem pieces_length (s : ByteArray) (i : Nat) : (pieces s i).length = i := by simp [pieces]
theorem pieces_succ (s : ByteArray) (i : Nat) : pieces s (i + 1) = pieces s i ++ [segAt s i] := by simp [pieces, List.range_succ]
theorem rest_size (s : ByteArray) (i : Nat) (h : startAt s i ≤ s.size) : (restAt s i).size = s.size - startAt s i := by
  unfold restAt
  rw [ByteArray.size_extract]
  omega
/-- The pieces in block B. -/
structure Fields (s : ByteArray) (i B : Nat) (w : World) : Prop where
  seg : ∀ j, j < i → w.cell? ⟨B, j, none⟩ = some (.string (segAt s j))
  rest : w.cell? ⟨B, i, none⟩ = some (.string (restAt s i))
  lt : B < w.heap.size
theorem fields_made (s : ByteArray) (i N : Nat) (w : World) (_h : i < N) : Fields s i w.heap.size (w.alloc (.cells (Lib.cellsOf (pieces s i ++ [restAt s i]) N) 9)) := by
  have hc : ∀ j, (w.alloc (.cells (Lib.cellsOf (pieces s i ++ [restAt s i]) N) 9)).cell? ⟨w.heap.size, j, none⟩ = (Lib.cellsOf (pieces s i ++ [restAt s i]) N)[j]? := fun j => World.cell?_alloc_at _ _ _ _ rfl
  have hl := pieces_length s i
  refine ⟨fun j hj => ?_, ?_, by simp⟩
  · rw [hc]
    unfold Lib.cellsOf
    rw [List.getElem?_toArray, List.getElem?_append_left (by simp; omega), List.getElem?_map, List.getElem?_append_left (by omega)]
    simp [pieces, hj]
  · rw [hc]
    unfold Lib.cellsOf
    rw [List.getElem?_toArray, List.getElem?_append_left (by simp; omega), List.getElem?_map, List.getElem?_append_right (by omega), hl]
    simp
set_option maxHeartbeats 8000000 in
set_option maxRecDepth 1000000 in
theorem genSplit_any (s : ByteArray) (w : World) (hs : s.size ≤ 9223372036854775000) :
    Calls Tryz.prog 166 #[.string s, .string ⟨#[46]⟩, .int .i64 0, .int .i64 3] w fun e w' => ∃ i N : Nat, Cut3 s i ∧ i < N ∧ N ≤ 3 ∧ e = .returned (.slice (some ⟨w.heap.size, 0, none⟩) (i + 1) N) ∧ Fields s i w.heap.size w' ∧ Below w.heap.size w w' := by
  obtain ⟨N, hN⟩ : ∃ N : Nat, min (3 : Int) ((s.size : Int) + 1) = (N : Int) := ⟨min 3 (s.size + 1), by omega⟩
  have hN1 : 1 ≤ N := by omega
  have hN3 : N ≤ 3 := by omega
  have hNe : N < 3 → N = s.size + 1 := fun h => by omega
  have hmk := run_make_row' (P := Tryz.prog) 39 9 (.string ByteArray.empty) 16 Tryz.underlying39 infoTextE rfl .i64 .i64 N (by omega) (by omega)
  have HNe := Lib.hid hNe
  clear hNe
  have hN1' : (1 : Int) ≤ (N : Int) := by omega
  have hN3' : (N : Int) ≤ 3 := by omega
  have hsz : (s.size : Int) ≤ 9223372036854775000 := by omega
  go_enter Tryz.func166, Tryz.ntmps166
  go_wp2
  clear hmk
  go_loopw [0, 10] (fun s0 s10 wr => ∃ i : Nat, i ≤ N - 1 ∧ s0 = .string (restAt s i) ∧ s10 = .int .i64 i ∧ startAt s i ≤ s.size ∧ Hid (∀ j, j < i → nextDot s (startAt s j) < s.size) ∧ wr = w.alloc (.cells (Lib.cellsOf (pieces s i) N) 9)) (fun _ i _ => N - (intOf i).toNat)
  case atStart => exact ⟨0, Nat.zero_le _, by unfold restAt; simp [startAt], rfl, Nat.zero_le _, Lib.hid (fun j h => by omega), by rw [← Lib.cellsOf_nil]; rfl⟩
  case round =>
    obtain ⟨i, hi, rfl, rfl, hst, hdot, rfl⟩ := hrel
    have hnext : (Lib.cellsOf (pieces s i) N)[i]? = some (.string ByteArray.empty) := by
      have := Lib.cellsOf_next (done := pieces s i) (N := N) (by rw [pieces_length]; omega)
      rw [pieces_length] at this
      exact this
    have hset : ∀ x, (Lib.cellsOf (pieces s i) N).setIfInBounds i (.string x) = Lib.cellsOf (pieces s i ++ [x]) N := fun x => by
      have := Lib.cellsOf_set (done := pieces s i) (N := N) (by rw [pieces_length]; omega) x
      rw [pieces_length] at this
      exact this
    have hix := index_rest s (startAt s i) hst
    have hnl := nextDot_le s (startAt s i) hst
    have hng := nextDot_ge s (startAt s i)
    have hrs := rest_size s i hst
    have hcall := Lib.hid (index_any (restAt s i) 46 (w.alloc (.cells (Lib.cellsOf (pieces s i) N) 9)))
    have hfm := Lib.hid (fields_made s i N w (by omega))
    have hbelow := Lib.hid ((Below.refl w.heap.size w).alloc (Nat.le_refl _) (.cells (Lib.cellsOf (pieces s i ++ [restAt s i]) N) 9))
    have hcut : (i < 2 → nextDot s (startAt s i) = s.size) → Cut3 s i := fun h => ⟨by omega, hdot.out, hst, h⟩
    have hcut := Lib.hid hcut
    have hsg := startAt_ge s i
    by_cases hlt : i < N - 1
    · have hltz : (i : Int) < (N : Int) - 1 := by omega
      by_cases hd : nextDot s (startAt s i) < s.size
      · rw [if_pos hd] at hix
        have hix' : Lib.indexByte (restAt s i).data.toList 46 = ((nextDot s (startAt s i) - startAt s i : Nat) : Int) := hix
        have hseg : (restAt s i).extract 0 (nextDot s (startAt s i) - startAt s i) = segAt s i := by
          unfold restAt segAt
          rw [extract_extract_head s _ _ (by omega)]
          congr 1
          omega
        have hres : (restAt s i).extract (nextDot s (startAt s i) - startAt s i + 1) (restAt s i).size = restAt s (i + 1) := by
          unfold restAt
          rw [extract_extract_tail s _ _ (by omega)]
          congr 1
          show _ = nextDot s (startAt s i) + 1
          omega
        have hdot2 := Lib.hid (fun (j : Nat) (hj : j < i + 1) => (show nextDot s (startAt s j) < s.size from if h : j < i then hdot.out j h else (by have e : j = i := (by omega); rw [e]; exact hd)))
        have hst2 : startAt s (i + 1) ≤ s.size := by show nextDot s (startAt s i) + 1 ≤ s.size; omega
        obtain ⟨m, hm⟩ : ∃ m, nextDot s (startAt s i) - startAt s i = m := ⟨_, rfl⟩
        rw [hm] at hix' hseg hres
        have hm1 : m + 1 ≤ (restAt s i).size := by rw [hrs]; omega
        rw [hix'] at hcall
        have hseg := Lib.hid hseg
        have hres := Lib.hid hres
        clear hix hix' hnl hng hrs hd hm hsg hcut hst hdot
        obtain ⟨r, hr⟩ : ∃ r, restAt s i = r := ⟨_, rfl⟩
        rw [hr] at hm1 hcall hseg hres ⊢
        have hrz : r.size ≤ 9223372036854775000 := by rw [← hr]; unfold restAt; rw [ByteArray.size_extract]; omega
        clear hr
        have c0 : ¬ ((m : Int) < 0) := by omega
        have c1 : (0 : Int) ≤ (m : Int) := by omega
        have c2 : (m : Int) ≤ (r.size : Int) := by omega
        have c3 : (0 : Int) ≤ (m : Int) + 1 := by omega
        have c4 : (m : Int) + 1 ≤ (r.size : Int) := by omega
        go_wp2_with (first | (go_at_call 172; refine hcall.out.mono ?_; rintro e w' ⟨rfl, rfl⟩))
        go_roundw
        case rel =>
          refine ⟨i + 1, by omega, ?_, by go_num, hst2, hdot2, ?_⟩
          · rw [hres.out]
          · rw [pieces_succ, ← hseg.out]
        case measure => simp [intOf]; omega
      · rw [if_neg hd] at hix
        have hix' : Lib.indexByte (restAt s i).data.toList 46 = -1 := hix
        rw [hix'] at hcall
        have hc := Lib.hid (hcut.out fun _ => by omega)
        have hlen : ((i : Int) + 1) ≤ (N : Int) := by omega
        clear hix hix' hnl hng hrs hd hsg hcut hst hdot
        go_wp2_with (first | (go_at_call 172; refine hcall.out.mono ?_; rintro e w' ⟨rfl, rfl⟩))
        go_ret
        refine ⟨i, N, hc.out, by omega, hN3, rfl, ?_, ?_⟩
        · have := hfm.out
          rw [← hset] at this ⊢
          exact this
        · have := hbelow.out
          rw [← hset] at this ⊢
          exact this
    · have hlt' : ¬ (i : Int) < (N : Int) - 1 := by omega
      have hc := Lib.hid (hcut.out fun h => by
        have := HNe.out (by omega)
        omega)
      have hlen : ((i : Int) + 1) ≤ (N : Int) := by omega
      clear hix hnl hng hrs hsg hcut hst hdot
      go_wp2
      go_ret
      refine ⟨i, hc.out, N, by omega, hN3, rfl, ?_, ?_⟩
      · exact hfm.out
      · exact hbelow.out
theorem splitN_any (s : ByteArray) (w : World) (hs : s.size ≤ 9223372036854775000) :
    Calls Tryz.prog 154 #[.string s, .string ⟨#[46]⟩, .int .i64 3] w fun e w' => ∃ i N : Nat, Cut3 s i ∧ i < N ∧ N ≤ 3 ∧ e = .returned (.slice (some ⟨w.heap.size, 0, none⟩) (i + 1) N) ∧ Fields s i w.heap.size w' ∧ Below w.heap.size w w' := by
  have hc := Lib.hid (genSplit_any s w hs)
  go_enter Tryz.func154, Tryz.ntmps154
  go_wp2_with (go_at_call 166; refine hc.out.mono ?_; rintro e w' ⟨i, N, h1, h2, h3, rfl, h4, h5⟩)
  go_ret
  exact ⟨i, N, h1, h2, h3, rfl, h4, h5⟩
end Go.Proofs.YtcbnefeedoabeaaGreatDoor
/- Contracts: parse_any. -/
namespace Go.Proofs.YtcbnefeedoabeaaGreatDoor
open Go Go.RowKit

set_option maxHeartbeats 8000000 in
theorem parse_any (s : ByteArray) (w : World) :
    Calls Tryz.prog 155 #[.string s] w fun e w' => e = .returned (parseV s) ∧ Below w.heap.size w w' := by
  obtain ⟨D, hD⟩ : ∃ D, D = Lib.trimPrefix s.data.toList [45] := ⟨_, rfl⟩
  obtain ⟨N, hN⟩ : ∃ N, N = Lib.hasPrefix s.data.toList [45] := ⟨_, rfl⟩
  obtain ⟨d, hd⟩ : ∃ d : ByteArray, d = ⟨D.toArray⟩ := ⟨_, rfl⟩
  have hcut : Calls Tryz.prog 167 #[.string s, .string ⟨#[45]⟩] w fun e w' => e = .returned (.tuple #[.string d, .bool N]) ∧ w = w' := by
    rw [hd, hD, hN]
    exact (Tryz.strings_CutPrefix s ⟨#[45]⟩ w).mono fun e w' h => ⟨h.1, h.2.symm⟩
  have hdl : d.data.toList = D := by rw [hd]
  have hv : parseV s = parseD (isZ s) N d.data.toList := by rw [hdl, hD, hN]; rfl
  clear hD hN hd hdl D
  by_cases h0 : d.size = 0
  · obtain rfl : d = ⟨#[]⟩ := by
      cases d with | mk a =>
      congr 1
      exact Array.eq_empty_of_size_eq_zero h0
    replace hv := Lib.hid (hv.trans (parseD_empty _ _))
    clear h0
    go_enter Tryz.func155, Tryz.ntmps155
    go_wp2_with (go_at_call 167; refine hcut.mono ?_; rintro e w' ⟨rfl, rfl⟩)
    go_ret2
    refine ⟨ret_v ?_, Below.refl _ _⟩
    rw [hv.out]
    rfl
  · have hpos : 0 < d.size := by omega
    have hne : d.data.toList ≠ [] := by
      intro e
      have : d.data.toList.length = d.size := rfl
      rw [e] at this
      simp at this
      omega
    have hhd : d.data.toList.head? = some (d.get! 0) := by rw [show d.data.toList = d.data.toList.drop 0 from rfl, drop_at d 0 hpos]; rfl
    have hem : d.toList.isEmpty = false := by rw [ByteArray.toList_eq]; simpa using hne
    have hem2 : ¬ d.toList = [] := by rw [ByteArray.toList_eq]; exact hne
    have hzq := isZ_eq s
    have hg0 := get_bang d 0 hpos
    by_cases hbad : d.get! 0 = 48 ∧ isZ s = false
    · obtain ⟨hc, hz⟩ := hbad
      have q48 : ((d[0].toNat : Int) == 48) = true := by rw [← hg0, hc]; rfl
      rw [hz] at hzq hv
      replace hv := Lib.hid (hv.trans (parseD_zero _ _ (by rw [hhd, hc])))
      replace hg0 := Lib.hid hg0
      replace hne := Lib.hid hne
      replace hhd := Lib.hid hhd
      replace hc := Lib.hid hc
      go_enter Tryz.func155, Tryz.ntmps155
      go_wp2_with (go_at_call 167; refine hcut.mono ?_; rintro e w' ⟨rfl, rfl⟩)
      go_ret2
      refine ⟨ret_v ?_, Below.refl _ _⟩
      rw [hv.out]
      rfl
    · have hh : ¬ (d.data.toList.head? = some 48 ∧ isZ s = false) := by
        rintro ⟨h1, h2⟩
        rw [hhd] at h1
        exact hbad ⟨Option.some.inj h1, h2⟩
      have hcase : (((d[0].toNat : Int) == 48) = true ∧ (s.toList == [48]) = true) ∨ ((d[0].toNat : Int) == 48) = false := by
        by_cases hc : d.get! 0 = 48
        · left
          refine ⟨by rw [← hg0, hc]; rfl, ?_⟩
          rw [hzq]
          cases hz : isZ s with
          | true => rfl
          | false => exact absurd ⟨hc, hz⟩ hbad
        · right
          rw [← hg0]
          exact beqN hc 48 rfl
      replace hv := Lib.hid hv
      replace hg0 := Lib.hid hg0
      replace hne := Lib.hid hne
      replace hhd := Lib.hid hhd
      replace hh := Lib.hid hh
      replace hbad := Lib.hid hbad
      clear hzq
      rcases hcase with ⟨q48, hzq⟩ | q48
      all_goals
        go_enter Tryz.func155, Tryz.ntmps155
        go_wp2_with (go_at_call 167; refine hcut.mono ?_; rintro e w' ⟨rfl, rfl⟩)
        go_loopw [6] (fun nv wr => PnRel d w.heap.size nv w wr) (fun _ wr => d.size - wr.iterPos w.heap.size)
        case atStart =>
          refine ⟨0, Nat.zero_le _, rfl, rfl, ?_, (Below.refl _ w).alloc (Nat.le_refl _) _⟩
          simpa using World.iter_heap w d 0
        case round =>
          obtain ⟨pos, hpos', hall, rfl, hit, hbw⟩ := hrel
          have hsz : w.heap.size < wr.heap.size := (Array.getElem?_eq_some_iff.1 hit).1
          have hmea : wr.iterPos w.heap.size = pos := by simp only [World.iterPos, hit]
          by_cases hp : pos < d.size
          · have hnx : ∀ ty, (Instr.next (.pointer (some ⟨w.heap.size, 0, none⟩)) true ty).run Tryz.prog wr = _ := fun ty => Lib.run_next_any_at wr w.heap.size d pos ty hit hp
            have hd1 := decode_le d pos
            have hdr := digB_rune d pos hp
            have hit2 := Lib.iterAt_heap wr w.heap.size d pos (pos + (Utf8.decode d pos).2) hit
            have hbw2 := Lib.below_iterAt hbw (k := w.heap.size) (Nat.le_refl _) d (pos + (Utf8.decode d pos).2)
            cases hdg : isD (d.get! pos) with
            | true =>
              obtain ⟨e1, e2⟩ := digit_rune d pos hp hdg
              have hvs := valN_snoc (d.data.toList.take pos) (d.get! pos)
              rw [← take_get d pos hp] at hvs
              have hal2 : (d.data.toList.take (pos + 1)).all isD = true := by rw [take_get d pos hp, List.all_append, hall]; simp [hdg]
              rw [hdg] at hdr
              rw [e2] at hnx hit2 hbw2
              clear e2
              have hb1 : 48 ≤ (d.get! pos).toNat ∧ (d.get! pos).toNat ≤ 57 := by simpa [isD] using hdg
              have hcap := cap_step (valN (d.data.toList.take pos)) ((d.get! pos).toNat - 48) (by omega)
              rw [← hvs] at hcap
              rw [← e1] at hcap hb1
              clear e1
              have hmin : min (valN (d.data.toList.take pos)) 1099511627777 ≤ 1099511627777 := Nat.min_le_right _ _
              generalize (Utf8.decode d pos).1 = r at hnx hd1 hdr hcap hb1
              generalize min (valN (d.data.toList.take pos)) 1099511627777 = v at hcap hmin
              generalize hW1 : wr.iterAt w.heap.size d (pos + 1) = W1 at hit2 hbw2 hnx
              obtain ⟨b1, b2⟩ := hb1
              replace hW1 := Lib.hid hW1
              replace hit := Lib.hid hit
              replace hit2 := Lib.hid hit2
              replace hmea := Lib.hid hmea
              replace hall := Lib.hid hall
              replace hal2 := Lib.hid hal2
              replace hvs := Lib.hid hvs
              replace hcap := Lib.hid hcap
              replace hdg := Lib.hid hdg
              go_wp2_with (go_at_call 130; refine (isDigit_any _ _).mono ?_; rintro e w' ⟨rfl, rfl⟩)
              go_roundw
              case rel => exact ⟨pos + 1, by omega, hal2.out, (by rw [← hcap.out]; refine congrArg _ ?_; omega), hit2.out, hbw2⟩
              case measure => rw [hmea.out]; simp only [World.iterPos, hit2.out]; omega
            | false =>
              rw [hdg] at hdr
              have hget : d.data.toList[pos]? = some (d.get! pos) := by rw [get_list d pos hp]; simp [List.getD, hp]
              have hvb := Lib.hid (hv.out.trans (parseD_bad _ _ _ (all_not hget hdg)))
              generalize (Utf8.decode d pos).1 = r at hnx hd1 hdr
              generalize hW1 : wr.iterAt w.heap.size d _ = W1 at hit2 hbw2 hnx
              replace hW1 := Lib.hid hW1
              replace hit := Lib.hid hit
              replace hit2 := Lib.hid hit2
              replace hmea := Lib.hid hmea
              replace hall := Lib.hid hall
              replace hget := Lib.hid hget
              replace hdg := Lib.hid hdg
              go_wp2_with (go_at_call 130; refine (isDigit_any _ _).mono ?_; rintro e w' ⟨rfl, rfl⟩)
              go_ret2
              refine ⟨ret_v ?_, hbw2⟩
              rw [hvb.out]
              rfl
          · obtain rfl : pos = d.size := by omega
            have hnx : ∀ ty, (Instr.next (.pointer (some ⟨w.heap.size, 0, none⟩)) true ty).run Tryz.prog wr = _ := fun ty => Lib.run_next_end_at wr w.heap.size d d.size ty hit hp
            rw [take_all] at hall ⊢
            replace hit := Lib.hid hit
            replace hmea := Lib.hid hmea
            by_cases hbig : 1099511627776 < valN d.data.toList
            · have hvb := Lib.hid (hv.out.trans (parseD_big _ _ _ hne.out hh.out hall hbig))
              have hm : min (valN d.data.toList) 1099511627777 = 1099511627777 := by omega
              rw [hm]
              replace hm := Lib.hid hm
              replace hall := Lib.hid hall
              go_wp2
              go_ret2
              refine ⟨ret_v ?_, hbw⟩
              rw [hvb.out]
              rfl
            · have hvb := Lib.hid (hv.out.trans (parseD_ok _ _ _ hne.out hh.out hall hbig))
              have hm : min (valN d.data.toList) 1099511627777 = valN d.data.toList := by omega
              rw [hm]
              replace hm := Lib.hid hm
              replace hall := Lib.hid hall
              generalize valN d.data.toList = v at hbig hvb
              have hsm : (v : Int) ≤ 1099511627776 := by omega
              replace hbig := Lib.hid hbig
              cases N with
              | true =>
                go_wp2
                go_ret2
                refine ⟨ret_v ?_, hbw⟩
                rw [hvb.out]
                rfl
              | false =>
                go_wp2
                go_ret2
                refine ⟨ret_v ?_, hbw⟩
                rw [hvb.out]
                rfl
end Go.Proofs.YtcbnefeedoabeaaGreatDoor
/- Contract of package value's parts of a version. -/
namespace Go.Proofs.YtcbnefeedoabeaaGreatDoor
open Go Go.RowKit

theorem Fields.below {s : ByteArray} {i B : Nat} {w w' : World} (h : Fields s i B w) (hb : Below w.heap.size w w') : Fields s i B w' :=
  ⟨fun j hj => (hb.cell (p := ⟨B, j, none⟩) h.lt).trans (h.seg j hj), (hb.cell (p := ⟨B, i, none⟩) h.lt).trans h.rest, Nat.lt_of_lt_of_le h.lt hb.size⟩
theorem Fields.other {s : ByteArray} {i B b k : Nat} {w : World} {v : Value} (h : Fields s i B w) (hne : b ≠ B) : Fields s i B (w.setCell ⟨b, k, none⟩ v) := by
  have hc : ∀ j, (w.setCell ⟨b, k, none⟩ v).cell? ⟨B, j, none⟩ = w.cell? ⟨B, j, none⟩ := fun j => World.cell?_setCell_other w _ _ _ (fun e => hne (by injection e))
  exact ⟨fun j hj => (hc j).trans (h.seg j hj), (hc i).trans h.rest, by simpa using h.lt⟩
theorem Out3.grown {l : List Int} {B : Nat} {w wr w' : World} (h : Out3 l B w wr) (hb : Below wr.heap.size wr w') : Out3 l B w w' := by
  have h1 := (Array.getElem?_eq_some_iff.1 h.here).1
  have h0 := (Array.getElem?_eq_some_iff.1 h.first).1
  exact ⟨(hb.block B h0).trans h.first, (hb.block (B + 1) h1).trans h.here, h.below.trans (hb.mono (by omega))⟩
/-- Field number k. -/
def fieldAt (s : ByteArray) (k : Nat) : ByteArray := if k < 2 then segAt s k else restAt s 2
theorem Fields.at {s : ByteArray} {B : Nat} {w : World} (h : Fields s 2 B w) (k : Nat) (hk : k < 3) : w.cell? ⟨B, k, none⟩ = some (.string (fieldAt s k)) := by
  unfold fieldAt
  by_cases h2 : k < 2
  · rw [if_pos h2]; exact h.seg k h2
  · rw [if_neg h2]
    obtain rfl : k = 2 := by omega
    exact h.rest
theorem Cut3.at {s : ByteArray} (h : Cut3 s 2) (k : Nat) (hk : k < 3) : (partOk s k ↔ fieldOk (fieldAt s k)) ∧ (partOk s k → fieldAt s k = segAt s k) := by
  unfold fieldAt
  by_cases h2 : k < 2
  · rw [if_pos h2]; exact ⟨h.part k h2, fun _ => rfl⟩
  · rw [if_neg h2]
    obtain rfl : k = 2 := by omega
    exact h.part2

set_option maxHeartbeats 8000000 in
theorem partsOf_any (s : ByteArray) (w : World) (hs : s.size ≤ 9223372036854775000) :
    Calls Tryz.prog 132 #[.string s] w fun e w' => e = .returned (verV s) ∧ Below w.heap.size w w' := by
  go_enter Tryz.func132, Tryz.ntmps132
  go_upto_region 2 with (fail)
  have hs0 := Out3.start w
  have hz : ((w.alloc (.cells #[.int .i64 0, .int .i64 0, .int .i64 0] 122)).alloc (.cells #[.int .i64 0, .int .i64 0, .int .i64 0] 122)).heap.size = w.heap.size + 2 := by simp
  generalize (w.alloc (.cells #[.int .i64 0, .int .i64 0, .int .i64 0] 122)).alloc (.cells #[.int .i64 0, .int .i64 0, .int .i64 0] 122) = w0 at hs0 hz ⊢
  have hsp := Lib.hid (splitN_any s w0 hs)
  go_upto_region 3 with (first | (go_at_call 154; refine hsp.out.mono ?_; rintro e w1 ⟨i, N, hcut, hiN, hN3, rfl, hf, hb1⟩))
  have hB0 : w.heap.size ≤ w0.heap.size := by omega
  have hs1 := hs0.grown hb1
  have z0 := hs1.zero 0 (by omega)
  have z1 := hs1.zero 1 (by omega)
  have z2 := hs1.zero 2 (by omega)
  have zf := hs1.free0
  have d0 : w1.cell? ⟨w.heap.size + 1, 0, none⟩ = some (.int .i64 0) := hs1.cell 0 (by decide)
  have d1 : w1.cell? ⟨w.heap.size + 1, 1, none⟩ = some (.int .i64 0) := hs1.cell 1 (by decide)
  have d2 : w1.cell? ⟨w.heap.size + 1, 2, none⟩ = some (.int .i64 0) := hs1.cell 2 (by decide)
  have hbl := hs1.below
  have hi2 := hcut.two
  by_cases hi : i < 2
  · have hno := hcut.short hi
    have hv : verV s = .tuple #[.agg #[.int .i64 0, .int .i64 0, .int .i64 0], .bool false] := if_neg hno
    replace hv := Lib.hid hv
    have hne : ((i : Int) + 1 != 3) = true := by simp; omega
    clear hs1 hs0 hcut hf hno hb1 hsp hiN hN3
    go_wp2
    refine bodyPost_ret (v := .tuple #[.agg #[.int .i64 0, .int .i64 0, .int .i64 0], .bool false]) (by simp [results, Tryz.results132, go_sem, z0, z1, z2]) rfl ⟨by rw [hv.out], ?_⟩
    exact ((hbl.setCell (p := ⟨w.heap.size, 0, none⟩) (Nat.le_refl _) _).setCell (p := ⟨w.heap.size, 1, none⟩) (Nat.le_refl _) _).setCell (p := ⟨w.heap.size, 2, none⟩) (Nat.le_refl _) _
  · obtain rfl : i = 2 := by omega
    clear z0 z1 z2 zf d0 d1 d2 hbl hs0 hi hi2 hB0 hb1
    rw [show (2 + 1 : Nat) = 3 from rfl]
    rw [hz] at hf
    have hw1 : w.heap.size + 2 < w1.heap.size := hf.lt
    go_wp2
    go_loopw [6, 7, 8, 9, 18] (fun _ _ _ _ i wr => ∃ k : Nat, k ≤ 3 ∧ i = .int .i64 k ∧ Hid (∀ j, j < k → partOk s j) ∧ Out3 (fillV s k) w.heap.size w wr ∧ Fields s 2 (w.heap.size + 2) wr) (fun _ _ _ _ i _ => 3 - (intOf i).toNat)
    case atStart => exact ⟨0, by omega, rfl, Lib.hid (fun j h => by omega), hs1, hf⟩
    case round =>
      obtain ⟨k, hk, rfl, hok, hout, hfl⟩ := hrel
      clear hs1 hf
      by_cases hlt : k < 3
      · have hlt' : (k : Int) < 3 := by omega
        have hfk := hfl.at k hlt
        obtain ⟨hiff, hsame⟩ := hcut.at k hlt
        have hfz : (fieldAt s k).size ≤ 9223372036854775000 := by
          unfold fieldAt segAt restAt
          split <;> (rw [ByteArray.size_extract]; omega)
        have hcall := parse_any (fieldAt s k) wr
        rw [parseV_eq] at hcall; unfold numE at hcall
        have herr := parseP_err (fieldAt s k)
        have hbnd := parseP_le (fieldAt s k)
        have hvn : partOk s k → verN s k = (parseP (fieldAt s k)).1 := fun h => by unfold verN; rw [hsame h]
        unfold fieldOk at hiff
        generalize (parseP (fieldAt s k)).1 = n at hcall hiff hvn hbnd
        generalize (parseP (fieldAt s k)).2 = e at hcall hiff herr
        generalize fieldAt s k = fk at hfk hcall
        replace hcall := Lib.hid hcall
        clear hsame hfz
        by_cases hp2 : partOk s k
        · obtain ⟨rfl, h0, h9⟩ := hiff.1 hp2
          have hok2 := Lib.hid (fun (j : Nat) (hj : j < k + 1) => (show partOk s j from if h : j < k then hok.out j h else (by have e9 : j = k := (by omega); rw [e9]; exact hp2)))
          have hvk := hvn hp2
          have hput := fun (W : World) (hb : Below wr.heap.size wr W) => (hout.grown hb).put k n
          rw [← hvk, fillV_set s k hlt, hvk] at hput
          have hput := Lib.hid hput
          have hcl := Lib.hid (fun (W : World) (hb : Below wr.heap.size wr W) => (hout.grown hb).cell k (by rw [fillV_length]; exact hlt))
          have hcf := Lib.hid (fun (W : World) (hb : Below wr.heap.size wr W) => (hout.grown hb).free k)
          clear hiff hp2 hvn herr hbnd hvk hok
          go_wp2_with (go_at_call 155; refine hcall.out.mono ?_; rintro e9 w9 ⟨rfl, hb9⟩; have hcl9 := hcl.out w9 hb9; have hcf9 := hcf.out w9 hb9)
          go_roundw
          case rel => exact ⟨k + 1, by omega, by go_num, hok2, hput.out w9 hb9, (hfl.below hb9).other (by omega)⟩
          case measure => simp [intOf]; omega
        · have hvb := Lib.hid (verV_bad s k hlt hp2)
          have hway : e = 1 ∨ e = 3 ∨ (e = 0 ∧ n < 0) ∨ (e = 0 ∧ 0 ≤ n ∧ 999999 < n) := by
            by_cases g0 : e = 0
            · by_cases g1 : n < 0
              · exact .inr (.inr (.inl ⟨g0, g1⟩))
              · by_cases g2 : 999999 < n
                · exact .inr (.inr (.inr ⟨g0, by omega, g2⟩))
                · exact absurd (hiff.2 ⟨g0, by omega, by omega⟩) hp2
            · rcases herr with h | h | h
              · exact absurd h g0
              · exact .inl h
              · exact .inr (.inl h)
          clear hiff hp2 hvn herr hok hfl
          have hz0 := Lib.hid (fun (W : World) (hb : Below wr.heap.size wr W) (i : Nat) (hi : i < 3) => (hout.grown hb).zero i hi)
          have hzf := Lib.hid (fun (W : World) (hb : Below wr.heap.size wr W) => (hout.grown hb).free0)
          have hbb := Lib.hid (fun (W : World) (hb : Below wr.heap.size wr W) => (hout.grown hb).below)
          clear hout
          rcases hway with rfl | rfl | ⟨rfl, g1⟩ | ⟨rfl, g1, g2⟩
          all_goals
            go_wp2_with (go_at_call 155; refine hcall.out.mono ?_; rintro e9 w9 ⟨rfl, hb9⟩; have z0 := hz0.out w9 hb9 0 (by omega); have z1 := hz0.out w9 hb9 1 (by omega); have z2 := hz0.out w9 hb9 2 (by omega); have zf := hzf.out w9 hb9; have hbl := hbb.out w9 hb9)
            refine bodyPost_ret (v := .tuple #[.agg #[.int .i64 0, .int .i64 0, .int .i64 0], .bool false]) (by simp [results, Tryz.results132, go_sem, z0, z1, z2]) rfl ⟨by rw [hvb.out], ?_⟩
            exact ((hbl.setCell (p := ⟨w.heap.size, 0, none⟩) (Nat.le_refl _) _).setCell (p := ⟨w.heap.size, 1, none⟩) (Nat.le_refl _) _).setCell (p := ⟨w.heap.size, 2, none⟩) (Nat.le_refl _) _
      · obtain rfl : k = 3 := by omega
        have hv : verV s = .tuple #[.agg #[.int .i64 (verN s 0), .int .i64 (verN s 1), .int .i64 (verN s 2)], .bool true] := by
          unfold verV
          rw [if_pos ⟨hok.out 0 (by omega), hok.out 1 (by omega), hok.out 2 (by omega)⟩]
        replace hv := Lib.hid hv
        have d0 : wr.cell? ⟨w.heap.size + 1, 0, none⟩ = some (.int .i64 (verN s 0)) := hout.cell 0 (by rw [fillV_length]; omega)
        have d1 : wr.cell? ⟨w.heap.size + 1, 1, none⟩ = some (.int .i64 (verN s 1)) := hout.cell 1 (by rw [fillV_length]; omega)
        have d2 : wr.cell? ⟨w.heap.size + 1, 2, none⟩ = some (.int .i64 (verN s 2)) := hout.cell 2 (by rw [fillV_length]; omega)
        have z0 := hout.zero 0 (by omega)
        have z1 := hout.zero 1 (by omega)
        have z2 := hout.zero 2 (by omega)
        have zf := hout.free0
        have hbl := hout.below
        clear hout hok hfl
        go_wp2
        refine bodyPost_ret (v := .tuple #[.agg #[.int .i64 (verN s 0), .int .i64 (verN s 1), .int .i64 (verN s 2)], .bool true]) (by simp [results, Tryz.results132, go_sem, z0, z1, z2]) rfl ⟨by rw [hv.out], ?_⟩
        exact ((hbl.setCell (p := ⟨w.heap.size, 0, none⟩) (Nat.le_refl _) _).setCell (p := ⟨w.heap.size, 1, none⟩) (Nat.le_refl _) _).setCell (p := ⟨w.heap.size, 2, none⟩) (Nat.le_refl _) _
end Go.Proofs.YtcbnefeedoabeaaGreatDoor
/- Contracts of package value's test of a value's fields. -/
namespace Go.Proofs.YtcbnefeedoabeaaGreatDoor
open Go Go.RowKit

set_option maxHeartbeats 8000000 in
theorem isPure_any (k n : Int) (t : ByteArray) (a0 : Option Addr) (len cap : Nat) (w : World) (hk : 1 ≤ k ∧ k ≤ 5) (b : Bool)
    (hb : b = decide (((k = 1 ∨ k = 2) ∨ n = 0) ∧ ((k = 3 ∨ k = 4) ∨ t.size = 0) ∧ (k = 5 ∨ len = 0))) :
    Calls Tryz.prog 80 #[.agg #[.int .i64 k, .int .i64 n, .string t, .slice a0 len cap]] w fun e w' => e = .returned (.bool b) ∧ Below w.heap.size w w' := by
  have hkk : k = 1 ∨ k = 2 ∨ k = 3 ∨ k = 4 ∨ k = 5 := by omega
  have hB := (Below.refl w.heap.size w).alloc (Nat.le_refl _) (.cells #[.int .i64 k, .int .i64 n, .string t, .slice a0 len cap] 41)
  replace hB := Lib.hid hB
  clear hk
  by_cases h1 : n = 0
  all_goals
    by_cases h2 : t.size = 0
    all_goals
      by_cases h3 : len = 0
      all_goals
        rcases hkk with rfl | rfl | rfl | rfl | rfl
        all_goals
          simp [h1, h2, h3] at hb
          subst hb
          try subst h1
          try subst h3
          try (obtain rfl := text_empty h2)
          try (have h4 := text_some h2)
          try (have h5 : ((len : Int) == 0) = false := by rw [beq_eq_false_iff_ne]; omega)
          try (have h6 : (n == 0) = false := by rw [beq_eq_false_iff_ne]; exact h1)
          try (replace h2 := Lib.hid h2)
          go_enter Tryz.func80, Tryz.ntmps80
          go_wp2
          go_ret
          exact ⟨rfl, hB.out⟩
theorem isPure_val (x : Val) (a0 : Option Addr) (cap : Nat) (w : World) (hk : 1 ≤ x.kind ∧ x.kind ≤ 5) :
    Calls Tryz.prog 80 #[x.agg a0 cap] w fun e w' => e = .returned (.bool (decide (shapeP x))) ∧ Below w.heap.size w w' :=
  isPure_any x.kind x.num x.text a0 x.list.length cap w hk _ rfl
end Go.Proofs.YtcbnefeedoabeaaGreatDoor
/- Contracts: valid_any, valid_loop. -/
namespace Go.Proofs.YtcbnefeedoabeaaGreatDoor
open Go Go.RowKit

set_option maxHeartbeats 2000000 in
theorem valid_loop (s : ByteArray) (w : World) (hs : s.size ≤ 200) (hv : Lib.validD s.data.toList = true) (hT : Tabs w) :
    Calls Tryz.prog 104 #[.string s] w fun e w' => e = .returned (.bool (validB s)) ∧ Below w.heap.size w w' := by
  go_enter Tryz.func104, Tryz.ntmps104
  go_wp2_with (go_at_call 128; refine (validString_any _ _ (by omega) hT).mono ?_; rintro e w0 ⟨rfl, hb0⟩)
  have hz0 := hb0.size
  go_loopw [] (fun wr => ∃ pos : Nat, pos ≤ s.size ∧ plainTo s pos ∧ wr.heap[w0.heap.size]? = some (.stringIter s pos) ∧ Below w.heap.size w wr) (fun wr => s.size - wr.iterPos w0.heap.size)
  case atStart =>
    refine ⟨0, Nat.zero_le _, fun i hi => by omega, ?_, hb0.alloc hz0 _⟩
    simpa using World.iter_heap w0 s 0
  case round =>
    obtain ⟨pos, hpos, hto, hit, hbw⟩ := hrel
    have hsz : w0.heap.size < wr.heap.size := (Array.getElem?_eq_some_iff.1 hit).1
    have hmea : wr.iterPos w0.heap.size = pos := by simp only [World.iterPos, hit]
    by_cases hp : pos < s.size
    · have hnx : ∀ ty, (Instr.next (.pointer (some ⟨w0.heap.size, 0, none⟩)) true ty).run Tryz.prog wr = _ := fun ty => Lib.run_next_any_at wr w0.heap.size s pos ty hit hp
      have hd1 := decode_le s pos
      have hfit := decode_fits s pos hp
      have hit2 := Lib.iterAt_heap wr w0.heap.size s pos (pos + (Utf8.decode s pos).2) hit
      have hbw2 := Lib.below_iterAt hbw (k := w0.heap.size) hz0 s (pos + (Utf8.decode s pos).2)
      by_cases hok : okC (s.get! pos).toNat
      · have hnext := plainTo_rune hto hok
        rw [okC_rune s pos hp] at hok
        have hmea2 : (wr.iterAt w0.heap.size s (pos + (Utf8.decode s pos).2)).iterPos w0.heap.size = pos + (Utf8.decode s pos).2 := by simp only [World.iterPos, hit2]
        generalize (Utf8.decode s pos).1 = r at hok hnx hd1
        generalize (Utf8.decode s pos).2 = wd at hnx hfit hit2 hbw2 hnext hmea2
        generalize hW1 : wr.iterAt w0.heap.size s (pos + wd) = W1 at hit2 hbw2 hnx hmea2
        replace hW1 := Lib.hid hW1
        replace hit2 := Lib.hid hit2
        replace hit := Lib.hid hit
        replace hmea := Lib.hid hmea
        replace hmea2 := Lib.hid hmea2
        replace hnext := Lib.hid hnext
        replace hto := Lib.hid hto
        replace hv := Lib.hid hv
        unfold okC at hok
        obtain ⟨hok1, hok2⟩ := hok
        have hno : ((r : Int) == 127) = false := by simp; omega
        go_wp2
        go_roundw
        case rel => exact ⟨pos + wd, hfit.2, hnext.out, hit2.out, hbw2⟩
        case measure => rw [hmea.out, hmea2.out]; omega
      · have hnot : validB s = false := validB_ctl hp hok
        rw [okC_rune s pos hp] at hok
        generalize (Utf8.decode s pos).1 = r at hok hnx hd1
        generalize (Utf8.decode s pos).2 = wd at hnx hfit hit2 hbw2
        generalize hW1 : wr.iterAt w0.heap.size s (pos + wd) = W1 at hit2 hbw2 hnx
        replace hW1 := Lib.hid hW1
        replace hit2 := Lib.hid hit2
        replace hit := Lib.hid hit
        replace hmea := Lib.hid hmea
        replace hnot := Lib.hid hnot
        replace hto := Lib.hid hto
        replace hv := Lib.hid hv
        unfold okC at hok
        by_cases h32 : r < 32
        · replace hok := Lib.hid hok
          go_wp2
          go_ret
          exact ⟨ret_bool hnot.out.symm, hbw2⟩
        · obtain rfl : r = 127 := by omega
          clear hok
          go_wp2
          go_ret
          exact ⟨ret_bool hnot.out.symm, hbw2⟩
    · obtain rfl : pos = s.size := by omega
      have hnx : ∀ ty, (Instr.next (.pointer (some ⟨w0.heap.size, 0, none⟩)) true ty).run Tryz.prog wr = _ := fun ty => Lib.run_next_end_at wr w0.heap.size s s.size ty hit hp
      have hk : validB s = true := validB_yes hs hv hto
      replace hk := Lib.hid hk
      replace hit := Lib.hid hit
      replace hto := Lib.hid hto
      replace hv := Lib.hid hv
      replace hmea := Lib.hid hmea
      go_wp2
      go_ret
      exact ⟨ret_bool hk.out.symm, hbw⟩

theorem valid_any (s : ByteArray) (w : World) (hm : s.size ≤ 9223372036854775807) (hT : Tabs w) :
    Calls Tryz.prog 104 #[.string s] w fun e w' => e = .returned (.bool (validB s)) ∧ Below w.heap.size w w' := by
  by_cases h1 : s.size ≤ 200
  · cases hv : Lib.validD s.data.toList with
    | true => exact valid_loop s w h1 hv hT
    | false =>
      have hk := Lib.hid (validB_bad hv)
      go_enter Tryz.func104, Tryz.ntmps104
      go_wp2_with (go_at_call 128; refine (validString_any _ _ hm hT).mono ?_; rintro e w0 ⟨rfl, hb0⟩)
      go_ret
      exact ⟨ret_bool hk.out.symm, hb0⟩
  · have hk := Lib.hid (validB_long h1)
    have h3 : 200 < s.size := by omega
    clear h1
    go_enter Tryz.func104, Tryz.ntmps104
    go_wp2
    go_ret
    exact ⟨ret_bool hk.out.symm, Below.refl _ _⟩
end Go.Proofs.YtcbnefeedoabeaaGreatDoor
/- Contracts of package value's check of a list of texts, of a value's content, and of a value. -/
namespace Go.Proofs.YtcbnefeedoabeaaGreatDoor
open Go Go.RowKit

theorem leqT_not (a b : ByteArray) : leqT a b = !Op.bytesLess b.toList a.toList := by
  unfold leqT
  rw [bytesLess_eq, bytesLess_eq]
  rw [Bool.eq_iff_iff]
  simp only [Bool.or_eq_true, decide_eq_true_eq, beq_iff_eq, Bool.not_eq_true', decide_eq_false_iff_not]
  rw [List.not_lt, List.le_iff_lt_or_eq]

set_option maxHeartbeats 8000000 in
theorem checkList_any (a0 : Option Addr) (l : List ByteArray) (cap : Nat) (w : World) (hl : l.length ≤ 9223372036854775806) (hs : ∀ s ∈ l, s.size ≤ 9223372036854775806) (hT : Tabs w) (hA : TextsAre a0 l w) :
    Calls Tryz.prog 133 #[.slice a0 (l.length : Nat) cap] w fun e w' => e = .returned (.int .i64 (listE l)) ∧ Below w.heap.size w w' := by
  by_cases h20 : 20 < l.length
  · have he : listE l = 5 := if_pos h20
    rw [he]
    go_enter Tryz.func133, Tryz.ntmps133
    go_wp2
    go_ret
    exact ⟨rfl, Below.refl _ _⟩
  · have he : listE l = if l.all validB = true then (if ascB l = true then 0 else 9) else 2 := if_neg h20
    replace he := Lib.hid he
    go_enter Tryz.func133, Tryz.ntmps133
    go_wp2
    go_loopw [4, 11] (fun _ i wr => ∃ n : Nat, n ≤ l.length ∧ i = .int .i64 n ∧ Hid ((l.take n).all validB = true) ∧ Below w.heap.size w wr) (fun _ i _ => l.length - (intOf i).toNat)
    case atStart => exact ⟨0, Nat.zero_le _, rfl, Lib.hid rfl, Below.refl _ _⟩
    case round =>
      obtain ⟨n, hn, rfl, hv, hbl⟩ := hrel
      by_cases hlt : n < l.length
      · obtain ⟨b, off, rfl, hbk, hc⟩ := hA n hlt
        have hcw := hbl.cell (p := ⟨b, off + n, none⟩) hbk
        rw [hc] at hcw
        have hlt' : (n : Int) < (l.length : Int) := by omega
        have hcall := Lib.hid (valid_any l[n] wr (by have := hs l[n] (List.getElem_mem hlt); omega) (hT.below hbl))
        cases hvb : validB l[n] with
        | true =>
          have hv2 := Lib.hid (validAll_step l n hlt hv.out hvb)
          rw [hvb] at hcall
          replace hvb := Lib.hid hvb
          generalize l[n] = s at hcw hcall
          go_wp2_with (go_at_call 104; refine hcall.out.mono ?_; rintro e w1 ⟨rfl, hb1⟩)
          go_roundw
          case rel => exact ⟨n + 1, by omega, by go_num, hv2, hbl.trans (hb1.mono hbl.size)⟩
          case measure => simp [intOf]; omega
        | false =>
          have hno := validAll_no l n hlt hvb
          have he2 := he.out
          rw [if_neg (by rw [hno]; simp)] at he2
          replace he2 := Lib.hid he2
          rw [hvb] at hcall
          replace hvb := Lib.hid hvb
          replace hno := Lib.hid hno
          generalize l[n] = s at hcw hcall
          go_wp2_with (go_at_call 104; refine hcall.out.mono ?_; rintro e w1 ⟨rfl, hb1⟩)
          go_ret
          exact ⟨by rw [he2.out]; rfl, hbl.trans (hb1.mono hbl.size)⟩
      · obtain rfl : n = l.length := by omega
        have hlt' : ¬ (l.length : Int) < (l.length : Int) := by omega
        have hall := hv.out
        rw [List.take_of_length_le (Nat.le_refl _)] at hall
        have he2 := he.out
        rw [if_pos hall] at he2
        replace he2 := Lib.hid he2
        replace hall := Lib.hid hall
        clear he hv
        obtain ⟨wm, hwm⟩ : ∃ wm : World, wm = wr := ⟨_, rfl⟩
        subst hwm
        go_wp2
        go_loopw [5] (fun i wr => ∃ n : Nat, 1 ≤ n ∧ (n ≤ l.length ∨ n = 1) ∧ i = .int .i64 n ∧ Hid (∀ i, i < n → ascAt l i = true) ∧ Below wm.heap.size wm wr) (fun i _ => l.length - (intOf i).toNat)
        case atStart => exact ⟨1, by omega, .inr rfl, rfl, Lib.hid (fun i h => by obtain rfl : i = 0 := (by omega); rfl), Below.refl _ _⟩
        case round =>
          obtain ⟨n, h1, hn2, rfl, hasc, hb2⟩ := hrel
          by_cases hlt2 : n < l.length
          · obtain ⟨b, off, rfl, hbk, hc⟩ := hA n hlt2
            obtain ⟨b', off', he', hbk', hc'⟩ := hA (n - 1) (by omega)
            cases he'
            have hbw := hbl.trans (hb2.mono hbl.size)
            have q1 := hbw.cell (p := ⟨b, off + n, none⟩) hbk
            have q2 := hbw.cell (p := ⟨b, off + (n - 1), none⟩) hbk'
            rw [hc] at q1
            rw [hc'] at q2
            obtain ⟨m, rfl⟩ : ∃ m, n = m + 1 := ⟨n - 1, by omega⟩
            simp only [Nat.add_sub_cancel] at q2
            have hltm : ((m : Int) + 1) < (l.length : Int) := by omega
            have hltm2 : (m : Int) < (l.length : Int) := by omega
            have hat : ascAt l (m + 1) = !leqT l[m + 1] (l[m]'(by omega)) := by simp [ascAt, hlt2, show m < l.length by omega]
            rw [leqT_not, Bool.not_not] at hat
            replace hc := Lib.hid hc
            replace hc' := Lib.hid hc'
            obtain ⟨s1, e1⟩ : ∃ s1, l[m + 1] = s1 := ⟨_, rfl⟩
            obtain ⟨s2, e2⟩ : ∃ s2, l[m]'(by omega) = s2 := ⟨_, rfl⟩
            rw [e1] at q1 hat
            rw [e2] at q2 hat
            replace e1 := Lib.hid e1
            replace e2 := Lib.hid e2
            cases hle : Op.bytesLess s2.toList s1.toList with
            | true =>
              rw [hle] at hat
              have hasc2 := Lib.hid (fun (i : Nat) (h : i < m + 1 + 1) => (show ascAt l i = true from if h2 : i < m + 1 then hasc.out i h2 else (by have e : i = m + 1 := (by omega); rw [e]; exact hat)))
              replace hat := Lib.hid hat
              go_upto_region 12 with (fail)
              go_region
              all_goals
                go_wp2
                refine ⟨⟨m + 1 + 1, by omega, .inl (by omega), by go_num, hasc2, hb2.drew⟩, ?_⟩
                simp [intOf]; omega
            | false =>
              rw [hle] at hat
              have hno := ascB_no l (m + 1) hlt2 hat
              have he3 := he2.out
              rw [if_neg (by rw [hno]; simp)] at he3
              replace he3 := Lib.hid he3
              replace hat := Lib.hid hat
              replace hno := Lib.hid hno
              go_upto_region 12 with (fail)
              go_region
              all_goals
                go_wp2
                go_ret
                exact ⟨by rw [he3.out]; rfl, hbw.drew⟩
          · have hlt3 : ¬ (n : Int) < (l.length : Int) := by omega
            have hyes := ascB_yes l (fun i hi => hasc.out i (by omega))
            have he3 := he2.out
            rw [if_pos hyes] at he3
            replace he3 := Lib.hid he3
            replace hyes := Lib.hid hyes
            go_wp2
            go_ret
            exact ⟨by rw [he3.out]; rfl, hbl.trans (hb2.mono hbl.size)⟩
/-- The error of a value's content, where its fields are in order. -/
def contentE (x : Val) : Int :=
  if x.kind = 1 then (if x.num = 0 ∨ x.num = 1 then 0 else 3)
  else if x.kind = 2 then (if x.num < -1099511627776 ∨ 1099511627776 < x.num then 3 else 0)
  else if x.kind = 3 then (if validB x.text = true then 0 else 2)
  else if x.kind = 4 then (if verOk x.text then 0 else 1)
  else listE x.list
theorem checkE_eq (x : Val) : checkE x = if x.kind < 1 ∨ 5 < x.kind then 7 else if ¬ shapeP x then 15 else contentE x := rfl
set_option maxHeartbeats 8000000 in
theorem content_any (x : Val) (a0 : Option Addr) (cap : Nat) (w : World) (hk : 1 ≤ x.kind ∧ x.kind ≤ 5) (ht : x.text.size ≤ 9223372036854775000) (hl : x.list.length ≤ 9223372036854775806) (hs : ∀ s ∈ x.list, s.size ≤ 9223372036854775806) (hT : Tabs w) (hA : TextsAre a0 x.list w) :
    Calls Tryz.prog 81 #[x.agg a0 cap] w fun e w' => e = .returned (.int .i64 (contentE x)) ∧ Below w.heap.size w w' := by
  obtain ⟨k, n, t, l⟩ := x
  unfold Val.agg
  simp only at hk ht hl hs hA ⊢
  have hB := (Below.refl w.heap.size w).alloc (Nat.le_refl _) (.cells #[.int .i64 k, .int .i64 n, .string t, .slice a0 (l.length : Nat) cap] 41)
  replace hB := Lib.hid hB
  have hkk : k = 1 ∨ k = 2 ∨ k = 3 ∨ k = 4 ∨ k = 5 := by omega
  clear hk
  obtain ⟨r, hr⟩ : ∃ r, contentE ⟨k, n, t, l⟩ = r := ⟨_, rfl⟩
  rw [hr]
  unfold contentE at hr
  simp only at hr
  rcases hkk with rfl | rfl | rfl | rfl | rfl
  · rw [if_pos rfl] at hr
    clear hl hs ht hA
    by_cases g : n = 0 ∨ n = 1
    · rw [if_pos g] at hr
      subst hr
      rcases g with rfl | rfl
      all_goals
        go_enter Tryz.func81, Tryz.ntmps81
        go_wp2
        go_ret
        exact ⟨rfl, hB.out⟩
    · rw [if_neg g] at hr
      subst hr
      have g0 : (n != 0) = true := by simp; omega
      have g1 : (n != 1) = true := by simp; omega
      have g2 : ¬ n = 0 := by omega
      have g3 : ¬ n = 1 := by omega
      clear g
      go_enter Tryz.func81, Tryz.ntmps81
      go_wp2
      go_ret
      exact ⟨rfl, hB.out⟩
  · rw [if_neg (by decide), if_pos rfl] at hr
    clear hl hs ht hA
    by_cases g : n < -1099511627776
    · rw [if_pos (.inl g)] at hr
      subst hr
      go_enter Tryz.func81, Tryz.ntmps81
      go_wp2
      go_ret
      exact ⟨rfl, hB.out⟩
    · by_cases g2 : 1099511627776 < n
      · rw [if_pos (.inr g2)] at hr
        subst hr
        go_enter Tryz.func81, Tryz.ntmps81
        go_wp2
        go_ret
        exact ⟨rfl, hB.out⟩
      · rw [if_neg (by omega)] at hr
        subst hr
        go_enter Tryz.func81, Tryz.ntmps81
        go_wp2
        go_ret
        exact ⟨rfl, hB.out⟩
  · rw [if_neg (by decide), if_neg (by decide), if_pos rfl] at hr
    clear hl hs hA
    have hc := valid_any t _ (by omega) (hT.below hB.out)
    cases g : validB t with
    | true =>
      rw [g] at hr hc
      rw [if_pos rfl] at hr
      subst hr
      replace hc := Lib.hid hc
      go_enter Tryz.func81, Tryz.ntmps81
      go_wp2_with (go_at_call 104; refine hc.out.mono ?_; rintro e w1 ⟨rfl, hb1⟩)
      go_ret
      exact ⟨rfl, hB.out.trans (hb1.mono hB.out.size)⟩
    | false =>
      rw [g] at hr hc
      rw [if_neg (by simp)] at hr
      subst hr
      replace hc := Lib.hid hc
      go_enter Tryz.func81, Tryz.ntmps81
      go_wp2_with (go_at_call 104; refine hc.out.mono ?_; rintro e w1 ⟨rfl, hb1⟩)
      go_ret
      exact ⟨rfl, hB.out.trans (hb1.mono hB.out.size)⟩
  · rw [if_neg (by decide), if_neg (by decide), if_neg (by decide), if_pos rfl] at hr
    clear hl hs hA
    have hc := partsOf_any t (w.alloc (.cells #[.int .i64 4, .int .i64 n, .string t, .slice a0 (l.length : Nat) cap] 41)) ht
    by_cases g : verOk t
    · rw [if_pos g] at hr
      subst hr
      have e1 : verV t = .tuple #[.agg #[.int .i64 (verN t 0), .int .i64 (verN t 1), .int .i64 (verN t 2)], .bool true] := if_pos g
      rw [e1] at hc
      replace e1 := Lib.hid e1
      replace hc := Lib.hid hc
      replace g := Lib.hid g
      go_enter Tryz.func81, Tryz.ntmps81
      go_wp2_with (go_at_call 132; refine hc.out.mono ?_; rintro e w1 ⟨rfl, hb1⟩)
      go_ret
      exact ⟨rfl, (hB.out.trans (hb1.mono hB.out.size)).alloc (hB.out.trans (hb1.mono hB.out.size)).size _⟩
    · rw [if_neg g] at hr
      subst hr
      have e1 : verV t = .tuple #[.agg #[.int .i64 0, .int .i64 0, .int .i64 0], .bool false] := if_neg g
      rw [e1] at hc
      replace e1 := Lib.hid e1
      replace hc := Lib.hid hc
      replace g := Lib.hid g
      go_enter Tryz.func81, Tryz.ntmps81
      go_wp2_with (go_at_call 132; refine hc.out.mono ?_; rintro e w1 ⟨rfl, hb1⟩)
      go_ret
      exact ⟨rfl, (hB.out.trans (hb1.mono hB.out.size)).alloc (hB.out.trans (hb1.mono hB.out.size)).size _⟩
  · rw [if_neg (by decide), if_neg (by decide), if_neg (by decide), if_neg (by decide)] at hr
    have hc := checkList_any a0 l cap _ hl hs (hT.below hB.out) (hA.below (Nat.le_refl _) hB.out)
    rw [hr] at hc
    replace hr := Lib.hid hr
    replace hc := Lib.hid hc
    clear hs hA hl ht
    go_enter Tryz.func81, Tryz.ntmps81
    go_wp2_with (go_at_call 133; refine hc.out.mono ?_; rintro e w1 ⟨rfl, hb1⟩)
    go_ret
    exact ⟨rfl, hB.out.trans (hb1.mono hB.out.size)⟩
set_option maxHeartbeats 8000000 in
theorem check_any (x : Val) (a0 : Option Addr) (cap : Nat) (w : World) (ht : x.text.size ≤ 9223372036854775000) (hl : x.list.length ≤ 9223372036854775806) (hs : ∀ s ∈ x.list, s.size ≤ 9223372036854775806) (hT : Tabs w) (hA : TextsAre a0 x.list w) :
    Calls Tryz.prog 43 #[x.agg a0 cap] w fun e w' => e = .returned (.int .i64 (checkE x)) ∧ Below w.heap.size w w' := by
  have hB := (Below.refl w.heap.size w).alloc (Nat.le_refl _) (.cells #[.int .i64 x.kind, .int .i64 x.num, .string x.text, .slice a0 (x.list.length : Nat) cap] 41)
  have he := checkE_eq x
  by_cases hk : x.kind < 1 ∨ 5 < x.kind
  · rw [if_pos hk] at he
    rw [he]
    replace he := Lib.hid he
    replace hB := Lib.hid hB
    clear hs hA hl ht
    unfold Val.agg
    obtain ⟨k, n, t, l⟩ := x
    simp only at hk hB ⊢
    by_cases h1 : k < 1
    · clear hk
      go_enter Tryz.func43, Tryz.ntmps43
      go_wp2
      go_ret
      exact ⟨rfl, hB.out⟩
    · have h5 : 5 < k := by omega
      clear hk
      go_enter Tryz.func43, Tryz.ntmps43
      go_wp2
      go_ret
      exact ⟨rfl, hB.out⟩
  · rw [if_neg hk] at he
    have hk2 : 1 ≤ x.kind ∧ x.kind ≤ 5 := by omega
    have hsh := Lib.hid (fun W => isPure_val x a0 cap W hk2)
    have hco := Lib.hid (fun W (hb : Below w.heap.size w W) => content_any x a0 cap W hk2 ht hl hs (hT.below hb) (hA.below (Nat.le_refl _) hb))
    have hone : ∀ W, Below (w.heap.size + 1) (w.alloc (.cells #[.int .i64 x.kind, .int .i64 x.num, .string x.text, .slice a0 (x.list.length : Nat) cap] 41)) W → W.heap[w.heap.size]? = some (.cells #[.int .i64 x.kind, .int .i64 x.num, .string x.text, .slice a0 (x.list.length : Nat) cap] 41 (0, 0)) := fun W hb => (hb.block w.heap.size (Nat.lt_succ_self _)).trans (heap_alloc_new w _)
    have hone := Lib.hid hone
    clear hs hA hl ht hT
    have h1 := hk2.1
    have h5 := hk2.2
    clear hk hk2
    obtain ⟨k, n, t, l⟩ := x
    unfold Val.agg at hsh hco ⊢
    simp only at he hsh hco hone hB h1 h5 ⊢
    replace hsh := Lib.hid hsh.out
    replace hco := Lib.hid hco.out
    replace hone := Lib.hid hone.out
    generalize contentE ⟨k, n, t, l⟩ = ce at he hco
    by_cases hp : shapeP ⟨k, n, t, l⟩
    · rw [if_neg (by simpa using hp)] at he
      have hd : decide (shapeP ⟨k, n, t, l⟩) = true := decide_eq_true hp
      rw [hd] at hsh
      clear hd hp
      rw [he]
      replace he := Lib.hid he
      replace hB := Lib.hid hB
      go_enter Tryz.func43, Tryz.ntmps43
      go_wp2_with (first | (go_at_call 80; refine (hsh.out _).mono ?_; rintro e w1 ⟨rfl, hb1⟩; have hw1 := hone.out w1 (hb1.mono (by simp)); have c0 : w1.cell? ⟨w.heap.size, 0, none⟩ = some (.int .i64 k) := (by rw [Lib.cell_of_heap hw1]; rfl); have c1 : w1.cell? ⟨w.heap.size, 1, none⟩ = some (.int .i64 n) := (by rw [Lib.cell_of_heap hw1]; rfl); have c2 : w1.cell? ⟨w.heap.size, 2, none⟩ = some (.string t) := (by rw [Lib.cell_of_heap hw1]; rfl); have c3 : w1.cell? ⟨w.heap.size, 3, none⟩ = some (.slice a0 l.length cap) := (by rw [Lib.cell_of_heap hw1]; rfl)) | (go_at_call 81; refine (hco.out _ (hB.out.trans (hb1.mono hB.out.size))).mono ?_; rintro e w2 ⟨rfl, hb2⟩))
      go_ret
      exact ⟨rfl, (hB.out.trans (hb1.mono hB.out.size)).trans (hb2.mono (hB.out.trans (hb1.mono hB.out.size)).size)⟩
    · rw [if_pos hp] at he
      have hd : decide (shapeP ⟨k, n, t, l⟩) = false := decide_eq_false hp
      rw [hd] at hsh
      clear hd hp
      rw [he]
      replace he := Lib.hid he
      replace hB := Lib.hid hB
      go_enter Tryz.func43, Tryz.ntmps43
      go_wp2_with (go_at_call 80; refine (hsh.out _).mono ?_; rintro e w1 ⟨rfl, hb1⟩)
      go_ret
      exact ⟨rfl, hB.out.trans (hb1.mono hB.out.size)⟩
end Go.Proofs.YtcbnefeedoabeaaGreatDoor
