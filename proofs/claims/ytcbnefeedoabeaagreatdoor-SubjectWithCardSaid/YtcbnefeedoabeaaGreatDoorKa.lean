/- The document's Find: the first context of a kind. Lookup: a value of the first context of a kind. Facts that the law of Find and Lookup uses: one context in a block of its own, sizes of what is found. -/
import Derived.Test.YtcbnefeedoabeaaGreatDoorPx
import Derived.Test.YtcbnefeedoabeaaGreatDoorKz
import Derived.Test.YtcbnefeedoabeaaGreatDoorPm
import Derived.Test.YtcbnefeedoabeaaGreatDoorPo
/- The document's Find: the first context of a kind. -/
namespace Go.Proofs.YtcbnefeedoabeaaGreatDoor
open Go Go.RowKit

def noC : Ctx := ⟨⟨#[]⟩, ⟨#[]⟩, []⟩
/-- The first context of a kind, and whether there is one. -/
def foundC (kd : ByteArray) (l : List Ctx) : Ctx × Bool :=
  match findK kd l with
  | none => (noC, false)
  | some i => (l.getD i noC, true)
theorem foundC_none {kd : ByteArray} {l : List Ctx} (h : findK kd l = none) : foundC kd l = (noC, false) := by unfold foundC; rw [h]
theorem foundC_some {kd : ByteArray} {l : List Ctx} {n : Nat} (h : findK kd l = some n) (hn : n < l.length) : foundC kd l = (l[n], true) := by
  unfold foundC
  rw [h]
  simp [List.getD, hn]
/-- What both Find's answer. -/
def FoundAt (Q : Nat → Prop) (kd : ByteArray) (l : List Ctx) (e : Ending) (w' : World) : Prop := ∃ (q : Option Addr) (d : Nat), e = .returned (.tuple #[.agg #[.string (foundC kd l).1.kind, .string (foundC kd l).1.key, .slice q ((foundC kd l).1.attrs.length : Nat) d], .bool (foundC kd l).2]) ∧ AttrsP Q q d (foundC kd l).1.attrs w'
set_option linter.unusedSimpArgs false in
set_option linter.unusedVariables false in
set_option maxHeartbeats 4000000 in
set_option maxRecDepth 100000 in
theorem refFind_any {P : Nat → Prop} (a0 : Option Addr) (cp : Nat) (l : List Ctx) (kd : ByteArray) (w : World) (hA : CtxsP P a0 cp l w) (hl : l.length ≤ 9223372036854775000) :
    Calls Tryz.prog 46 #[.agg #[.slice a0 (l.length : Nat) cp], .string kd] w fun e w' => FoundAt (fun b => P b ∧ b < w.heap.size) kd l e w' ∧ Below w.heap.size w w' := by
  have hbA := (Below.refl w.heap.size w).alloc (Nat.le_refl _) (.cells #[.slice a0 (l.length : Nat) cp] 25)
  have hbB := hbA.alloc hbA.size (.cells #[.string ⟨#[]⟩, .string ⟨#[]⟩, .slice none 0 0] 63)
  have hzA : ((w.alloc (.cells #[.slice a0 (l.length : Nat) cp] 25)).alloc (.cells #[.string ⟨#[]⟩, .string ⟨#[]⟩, .slice none 0 0] 63)).heap[w.heap.size]? = some (.cells #[.slice a0 (l.length : Nat) cp] 25 (0, 0)) := (Lib.alloc_old _ _ _ (by simp)).trans (heap_alloc_new w _)
  have hzB : ((w.alloc (.cells #[.slice a0 (l.length : Nat) cp] 25)).alloc (.cells #[.string ⟨#[]⟩, .string ⟨#[]⟩, .slice none 0 0] 63)).heap[w.heap.size + 1]? = some (.cells #[.string ⟨#[]⟩, .string ⟨#[]⟩, .slice none 0 0] 63 (0, 0)) := by
    have := heap_alloc_new (w.alloc (.cells #[.slice a0 (l.length : Nat) cp] 25)) (.cells #[.string ⟨#[]⟩, .string ⟨#[]⟩, .slice none 0 0] 63)
    simpa using this
  have hs0 : ((w.alloc (.cells #[.slice a0 (l.length : Nat) cp] 25)).alloc (.cells #[.string ⟨#[]⟩, .string ⟨#[]⟩, .slice none 0 0] 63)).heap.size = w.heap.size + 2 := by simp
  go_enter Tryz.func46, Tryz.ntmps46
  go_upto_region 1 with (fail)
  generalize ((w.alloc (.cells #[.slice a0 (l.length : Nat) cp] 25)).alloc (.cells #[.string ⟨#[]⟩, .string ⟨#[]⟩, .slice none 0 0] 63)) = w0 at hbB hzA hzB hs0 ⊢
  have hAk : CtxsP (fun b => P b ∧ b < w.heap.size) a0 cp l w := hA.mono fun b hb h => ⟨h, hb⟩
  have hA0 := hAk.same (SameB.of_below hbB)
  clear hbA hA hAk
  go_wp2
  go_loopw [6] (fun i wr => ∃ n : Nat, n ≤ l.length ∧ i = .int .i64 n ∧ Below w0.heap.size w0 wr ∧ ∀ j (hj : j < l.length), j < n → isKind kd l[j] = false) (fun i _ => l.length - (intOf i).toNat)
  case atStart => exact ⟨0, Nat.zero_le _, rfl, Below.refl _ _, fun j _ hj => by omega⟩
  case round =>
    obtain ⟨n, hn, rfl, hbl, hno⟩ := hrel
    have zA := (hbl.block w.heap.size (by omega)).trans hzA
    have zB := (hbl.block (w.heap.size + 1) (by omega)).trans hzB
    have c0 : wr.cell? ⟨w.heap.size, 0, none⟩ = some (.slice a0 l.length cp) := by rw [Lib.cell_of_heap zA]; rfl
    by_cases hlt : n < l.length
    · obtain ⟨b, off, rfl, hPb, hbk, hat⟩ := hA0.at_ n hlt
      have hbw : b < w.heap.size := hPb.2
      obtain ⟨q0, q1, pp, cc, q2, q5⟩ := hat.same (SameB.of_below hbl) hPb hbk
      have hnI2 : (n : Int) < (l.length : Int) := by omega
      have hnI3 : (0 : Int) ≤ (n : Int) := by omega
      have hk2 : (l[n].kind.toList == kd.toList) = isKind kd l[n] := rfl
      cases hk : isKind kd l[n] with
      | true =>
        rw [hk] at hk2
        have hfd := Lib.hid (foundC_some (findK_hit hlt hk hno) hlt)
        obtain ⟨x, hx⟩ : ∃ x, l[n] = x := ⟨_, rfl⟩
        rw [hx] at q0 q1 q2 q5 hk2 hfd
        clear hx hk hat hno
        have r0 : wr.cell? ⟨w.heap.size + 1, 0, none⟩ = some (.string ⟨#[]⟩) := by rw [Lib.cell_of_heap zB]; rfl
        have r1 : wr.cell? ⟨w.heap.size + 1, 1, none⟩ = some (.string ⟨#[]⟩) := by rw [Lib.cell_of_heap zB]; rfl
        have r2 : wr.cell? ⟨w.heap.size + 1, 2, none⟩ = some (.slice none 0 0) := by rw [Lib.cell_of_heap zB]; rfl
        have rf : ∀ i, wr.frozen? ⟨w.heap.size + 1, i, none⟩ = false := Lib.frozen_of_heap zB
        have zB4 : (((wr.setCell ⟨w.heap.size + 1, 0, none⟩ (.string x.kind)).setCell ⟨w.heap.size + 1, 1, none⟩ (.string x.key)).setCell ⟨w.heap.size + 1, 2, none⟩ (.slice pp (x.attrs.length : Nat) cc)).heap[w.heap.size + 1]? = some (.cells #[.string x.kind, .string x.key, .slice pp (x.attrs.length : Nat) cc] 63 (0, 0)) := (box_put (box_put (box_put zB _) _) _)
        have hb4 := ((((hbB.trans (hbl.mono (by omega))).setCell (p := ⟨w.heap.size + 1, 0, none⟩) (Nat.le_succ _) (.string x.kind)).setCell (p := ⟨w.heap.size + 1, 1, none⟩) (Nat.le_succ _) (.string x.key)).setCell (p := ⟨w.heap.size + 1, 2, none⟩) (Nat.le_succ _) (.slice pp (x.attrs.length : Nat) cc))
        have hXR : ¬ (P (w.heap.size + 1) ∧ w.heap.size + 1 < w.heap.size) := fun h => by omega
        have hq4 : AttrsP (fun b => P b ∧ b < w.heap.size) pp cc x.attrs _ := q5.same ((((SameB.refl _ _).set (B := w.heap.size + 1) hXR 0 (.string x.kind)).set (B := w.heap.size + 1) hXR 1 (.string x.key)).set (B := w.heap.size + 1) hXR 2 (.slice pp (x.attrs.length : Nat) cc))
        go_wp2
        generalize World.setCell _ _ _ = w4 at zB4 hb4 hq4 ⊢
        have s0 : w4.cell? ⟨w.heap.size + 1, 0, none⟩ = some (.string x.kind) := by rw [Lib.cell_of_heap zB4]; rfl
        have s1 : w4.cell? ⟨w.heap.size + 1, 1, none⟩ = some (.string x.key) := by rw [Lib.cell_of_heap zB4]; rfl
        have s2 : w4.cell? ⟨w.heap.size + 1, 2, none⟩ = some (.slice pp (x.attrs.length : Nat) cc) := by rw [Lib.cell_of_heap zB4]; rfl
        refine bodyPost_ret (v := .tuple #[.agg #[.string x.kind, .string x.key, .slice pp (x.attrs.length : Nat) cc], .bool true]) (by simp [results, Tryz.results46, go_sem, s0, s1, s2]) rfl ⟨⟨pp, cc, by rw [hfd.out], by rw [hfd.out]; exact hq4⟩, hb4⟩
      | false =>
        rw [hk] at hk2
        have hno2 : ∀ j (hj : j < l.length), j < n + 1 → isKind kd l[j] = false := fun j hj hjn => by
          rcases Nat.lt_or_ge j n with h1 | h1
          · exact hno j hj h1
          · have : j = n := by omega
            subst this
            exact hk
        replace hno2 := Lib.hid hno2
        obtain ⟨x, hx⟩ : ∃ x, l[n] = x := ⟨_, rfl⟩
        rw [hx] at q0 q1 q2 q5 hk2
        clear hx hk hat hno
        go_wp2
        go_roundw
        case rel => exact ⟨n + 1, by omega, by go_num, hbl, hno2.out⟩
        case measure => simp [intOf]; omega
    · obtain rfl : n = l.length := by omega
      have hnI : ¬ (l.length : Int) < (l.length : Int) := by omega
      have hfd := Lib.hid (foundC_none (findK_miss (fun j hj => hno j hj hj)))
      clear hno
      have r0 : wr.cell? ⟨w.heap.size + 1, 0, none⟩ = some (.string ⟨#[]⟩) := by rw [Lib.cell_of_heap zB]; rfl
      have r1 : wr.cell? ⟨w.heap.size + 1, 1, none⟩ = some (.string ⟨#[]⟩) := by rw [Lib.cell_of_heap zB]; rfl
      have r2 : wr.cell? ⟨w.heap.size + 1, 2, none⟩ = some (.slice none 0 0) := by rw [Lib.cell_of_heap zB]; rfl
      have rf : ∀ i, wr.frozen? ⟨w.heap.size + 1, i, none⟩ = false := Lib.frozen_of_heap zB
      have zB4 : (((wr.setCell ⟨w.heap.size + 1, 0, none⟩ (.string ⟨#[]⟩)).setCell ⟨w.heap.size + 1, 1, none⟩ (.string ⟨#[]⟩)).setCell ⟨w.heap.size + 1, 2, none⟩ (.slice none 0 0)).heap[w.heap.size + 1]? = some (.cells #[.string ⟨#[]⟩, .string ⟨#[]⟩, .slice none 0 0] 63 (0, 0)) := (box_put (box_put (box_put zB _) _) _)
      have hb4 := ((((hbB.trans (hbl.mono (by omega))).setCell (p := ⟨w.heap.size + 1, 0, none⟩) (Nat.le_succ _) (.string ⟨#[]⟩)).setCell (p := ⟨w.heap.size + 1, 1, none⟩) (Nat.le_succ _) (.string ⟨#[]⟩)).setCell (p := ⟨w.heap.size + 1, 2, none⟩) (Nat.le_succ _) (.slice none 0 0))
      go_wp2
      generalize World.setCell _ _ _ = w4 at zB4 hb4 ⊢
      have s0 : w4.cell? ⟨w.heap.size + 1, 0, none⟩ = some (.string ⟨#[]⟩) := by rw [Lib.cell_of_heap zB4]; rfl
      have s1 : w4.cell? ⟨w.heap.size + 1, 1, none⟩ = some (.string ⟨#[]⟩) := by rw [Lib.cell_of_heap zB4]; rfl
      have s2 : w4.cell? ⟨w.heap.size + 1, 2, none⟩ = some (.slice none 0 0) := by rw [Lib.cell_of_heap zB4]; rfl
      refine bodyPost_ret (v := .tuple #[.agg #[.string ⟨#[]⟩, .string ⟨#[]⟩, .slice none 0 0], .bool false]) (by simp [results, Tryz.results46, go_sem, s0, s1, s2]) rfl ⟨⟨none, 0, by rw [hfd.out]; rfl, by rw [hfd.out]; exact ⟨fun _ => rfl, Nat.zero_le _, fun i hi => by simp [noC] at hi⟩⟩, hb4⟩
end Go.Proofs.YtcbnefeedoabeaaGreatDoor
/- Lookup: a value of the first context of a kind. -/
namespace Go.Proofs.YtcbnefeedoabeaaGreatDoor
open Go Go.RowKit

def hasName (nm : ByteArray) (a : Attr) : Bool := a.name.toList == nm.toList
def findA (nm : ByteArray) (l : List Attr) : Option Nat := l.findIdx? (hasName nm)
theorem findA_hit {nm : ByteArray} {l : List Attr} {n : Nat} (h : n < l.length) (hk : hasName nm l[n] = true) (hb : ∀ j (hj : j < l.length), j < n → hasName nm l[j] = false) : findA nm l = some n := by
  unfold findA
  rw [List.findIdx?_eq_some_iff_getElem]
  exact ⟨h, hk, fun j hj => by rw [hb j (by omega) hj]; simp⟩
theorem findA_miss {nm : ByteArray} {l : List Attr} (hb : ∀ j (hj : j < l.length), hasName nm l[j] = false) : findA nm l = none := by
  unfold findA
  rw [List.findIdx?_eq_none_iff]
  intro x hx
  obtain ⟨j, hj, rfl⟩ := List.getElem_of_mem hx
  exact hb j hj
def noV : Val := ⟨0, 0, ⟨#[]⟩, []⟩
def isKey (nm : ByteArray) : Bool := nm.toList == [107, 101, 121]
/-- What a context says of a name. -/
def lookIn (nm : ByteArray) (x : Ctx) : Val × Bool :=
  if isKey nm = true then (⟨3, 0, x.key, []⟩, true) else
  match findA nm x.attrs with
  | none => (noV, false)
  | some j => ((x.attrs.getD j ⟨⟨#[]⟩, noV⟩).val, true)
/-- The value that Lookup gives. -/
def foundV (kd nm : ByteArray) (l : List Ctx) : Val × Bool :=
  match findK kd l with
  | none => (noV, false)
  | some i => lookIn nm (l.getD i noC)
theorem foundV_none {kd nm : ByteArray} {l : List Ctx} (h : findK kd l = none) : foundV kd nm l = (noV, false) := by unfold foundV; rw [h]
theorem foundV_some {kd nm : ByteArray} {l : List Ctx} {n : Nat} (h : findK kd l = some n) (hn : n < l.length) : foundV kd nm l = lookIn nm l[n] := by
  unfold foundV
  rw [h]
  simp [List.getD, hn]
theorem lookIn_key {nm : ByteArray} {x : Ctx} (h : isKey nm = true) : lookIn nm x = (⟨3, 0, x.key, []⟩, true) := by unfold lookIn; rw [if_pos h]
theorem lookIn_none {nm : ByteArray} {x : Ctx} (h : isKey nm = false) (hm : ∀ j (hj : j < x.attrs.length), hasName nm x.attrs[j] = false) : lookIn nm x = (noV, false) := by
  unfold lookIn
  rw [if_neg (by rw [h]; simp), findA_miss hm]
theorem lookIn_some {nm : ByteArray} {x : Ctx} {n : Nat} (h : isKey nm = false) (hn : n < x.attrs.length) (hk : hasName nm x.attrs[n] = true) (hb : ∀ j (hj : j < x.attrs.length), j < n → hasName nm x.attrs[j] = false) : lookIn nm x = (x.attrs[n].val, true) := by
  unfold lookIn
  rw [if_neg (by rw [h]; simp), findA_hit hn hk hb]
  simp [List.getD, hn]
theorem foundV_of (kd nm : ByteArray) (l : List Ctx) : foundV kd nm l = if (foundC kd l).2 = true then lookIn nm (foundC kd l).1 else (noV, false) := by
  unfold foundV foundC
  cases findK kd l <;> simp
theorem foundC_len {kd : ByteArray} {l : List Ctx} (h : ∀ x ∈ l, x.attrs.length ≤ 1000) : (foundC kd l).1.attrs.length ≤ 1000 := by
  unfold foundC
  cases findK kd l with
  | none => exact Nat.zero_le _
  | some i =>
    by_cases hi : i < l.length
    · simp only [List.getD, List.getElem?_eq_getElem hi, Option.getD_some]
      exact h _ (List.getElem_mem hi)
    · simp [List.getD, List.getElem?_eq_none (Nat.le_of_not_lt hi), noC]
/-- What both Lookups answer. -/
def LookAt (Q : Nat → Prop) (kd nm : ByteArray) (l : List Ctx) (e : Ending) (w' : World) : Prop := ∃ (q : Option Addr) (d : Nat), e = .returned (.tuple #[(foundV kd nm l).1.agg q d, .bool (foundV kd nm l).2]) ∧ ListP Q q d (foundV kd nm l).1.list w'
set_option linter.unusedSimpArgs false in
set_option linter.unusedVariables false in
set_option maxHeartbeats 8000000 in
set_option maxRecDepth 100000 in
theorem lookup_any {P : Nat → Prop} (a0 : Option Addr) (cp : Nat) (l : List Ctx) (kd nm : ByteArray) (w : World) (hA : CtxsP P a0 cp l w) (hl : l.length ≤ 9223372036854775000) (hf : ∀ x ∈ l, x.attrs.length ≤ 1000 ∧ ∀ a ∈ x.attrs, a.val.list.length ≤ 8796093022207) :
    Calls Tryz.prog 19 #[.agg #[.slice a0 (l.length : Nat) cp], .string kd, .string nm] w fun e w' => LookAt (fun b => w.heap.size ≤ b) kd nm l e w' ∧ Below w.heap.size w w' := by
  have hbA := (Below.refl w.heap.size w).alloc (Nat.le_refl _) (.cells #[.slice a0 (l.length : Nat) cp] 25)
  have hbB := hbA.alloc hbA.size (.cells #[.int .i64 0, .int .i64 0, .string ⟨#[]⟩, .slice none 0 0] 41)
  have hzA : ((w.alloc (.cells #[.slice a0 (l.length : Nat) cp] 25)).alloc (.cells #[.int .i64 0, .int .i64 0, .string ⟨#[]⟩, .slice none 0 0] 41)).heap[w.heap.size]? = some (.cells #[.slice a0 (l.length : Nat) cp] 25 (0, 0)) := (Lib.alloc_old _ _ _ (by simp)).trans (heap_alloc_new w _)
  have hzB : ((w.alloc (.cells #[.slice a0 (l.length : Nat) cp] 25)).alloc (.cells #[.int .i64 0, .int .i64 0, .string ⟨#[]⟩, .slice none 0 0] 41)).heap[w.heap.size + 1]? = some (.cells #[.int .i64 0, .int .i64 0, .string ⟨#[]⟩, .slice none 0 0] 41 (0, 0)) := by
    have := heap_alloc_new (w.alloc (.cells #[.slice a0 (l.length : Nat) cp] 25)) (.cells #[.int .i64 0, .int .i64 0, .string ⟨#[]⟩, .slice none 0 0] 41)
    simpa using this
  have hs0 : ((w.alloc (.cells #[.slice a0 (l.length : Nat) cp] 25)).alloc (.cells #[.int .i64 0, .int .i64 0, .string ⟨#[]⟩, .slice none 0 0] 41)).heap.size = w.heap.size + 2 := by simp
  have hik : (nm.toList == [107, 101, 121]) = isKey nm := rfl
  go_enter Tryz.func19, Tryz.ntmps19
  go_upto_region 1 with (fail)
  generalize ((w.alloc (.cells #[.slice a0 (l.length : Nat) cp] 25)).alloc (.cells #[.int .i64 0, .int .i64 0, .string ⟨#[]⟩, .slice none 0 0] 41)) = w0 at hbB hzA hzB hs0 ⊢
  have hAk : CtxsP (fun b => P b ∧ b < w.heap.size) a0 cp l w := hA.mono fun b hb h => ⟨h, hb⟩
  have hA0 := hAk.same (SameB.of_below hbB)
  have hix := Lib.hid (contextIndex_any a0 cp l kd w0 hA0 hl)
  have c0 : w0.cell? ⟨w.heap.size, 0, none⟩ = some (.slice a0 l.length cp) := by rw [Lib.cell_of_heap hzA]; rfl
  clear hbA
  cases hk : findK kd l with
  | none =>
    rw [hk] at hix
    have hfd := Lib.hid (foundV_none (nm := nm) hk)
    clear hk hf hl
    go_upto_region 3 with (go_at_call 34; refine hix.out.mono ?_; rintro e w1 ⟨rfl, hb1⟩; have zB1 := (hb1.block (w.heap.size + 1) (by omega)).trans hzB)
    have r0 : w1.cell? ⟨w.heap.size + 1, 0, none⟩ = some (.int .i64 0) := by rw [Lib.cell_of_heap zB1]; rfl
    have r1 : w1.cell? ⟨w.heap.size + 1, 1, none⟩ = some (.int .i64 0) := by rw [Lib.cell_of_heap zB1]; rfl
    have r2 : w1.cell? ⟨w.heap.size + 1, 2, none⟩ = some (.string ⟨#[]⟩) := by rw [Lib.cell_of_heap zB1]; rfl
    have r3 : w1.cell? ⟨w.heap.size + 1, 3, none⟩ = some (.slice none 0 0) := by rw [Lib.cell_of_heap zB1]; rfl
    have rf : ∀ i, w1.frozen? ⟨w.heap.size + 1, i, none⟩ = false := Lib.frozen_of_heap zB1
    have zB4 : ((((w1.setCell ⟨w.heap.size + 1, 0, none⟩ (.int .i64 0)).setCell ⟨w.heap.size + 1, 1, none⟩ (.int .i64 0)).setCell ⟨w.heap.size + 1, 2, none⟩ (.string ⟨#[]⟩)).setCell ⟨w.heap.size + 1, 3, none⟩ (.slice none 0 0)).heap[w.heap.size + 1]? = some (.cells #[.int .i64 0, .int .i64 0, .string ⟨#[]⟩, .slice none 0 0] 41 (0, 0)) := (box_put (box_put (box_put (box_put zB1 _) _) _) _)
    have hb4 := (((((hbB.trans (hb1.mono (by omega))).setCell (p := ⟨w.heap.size + 1, 0, none⟩) (Nat.le_succ _) (.int .i64 0)).setCell (p := ⟨w.heap.size + 1, 1, none⟩) (Nat.le_succ _) (.int .i64 0)).setCell (p := ⟨w.heap.size + 1, 2, none⟩) (Nat.le_succ _) (.string ⟨#[]⟩)).setCell (p := ⟨w.heap.size + 1, 3, none⟩) (Nat.le_succ _) (.slice none 0 0))
    go_wp2
    generalize World.setCell _ _ _ = w4 at zB4 hb4 ⊢
    have s0 : w4.cell? ⟨w.heap.size + 1, 0, none⟩ = some (.int .i64 0) := by rw [Lib.cell_of_heap zB4]; rfl
    have s1 : w4.cell? ⟨w.heap.size + 1, 1, none⟩ = some (.int .i64 0) := by rw [Lib.cell_of_heap zB4]; rfl
    have s2 : w4.cell? ⟨w.heap.size + 1, 2, none⟩ = some (.string ⟨#[]⟩) := by rw [Lib.cell_of_heap zB4]; rfl
    have s3 : w4.cell? ⟨w.heap.size + 1, 3, none⟩ = some (.slice none 0 0) := by rw [Lib.cell_of_heap zB4]; rfl
    refine bodyPost_ret (v := .tuple #[.agg #[.int .i64 0, .int .i64 0, .string ⟨#[]⟩, .slice none 0 0], .bool false]) (by simp [results, Tryz.results19, go_sem, s0, s1, s2, s3]) rfl ⟨⟨none, 0, by rw [hfd.out]; rfl, by rw [hfd.out]; exact ⟨fun _ => rfl, Nat.zero_le _, fun i hi => by simp [noV] at hi⟩⟩, hb4⟩
  | some n =>
    have hnl := findK_lt hk
    have hfd0 := Lib.hid (foundV_some (nm := nm) hk hnl)
    rw [hk] at hix
    clear hk
    obtain ⟨hfx1, hfx2⟩ := hf l[n] (List.getElem_mem hnl)
    have hnI : ¬ (n : Int) < 0 := by omega
    have hnI2 : (n : Int) < (l.length : Int) := by omega
    have hnI3 : (0 : Int) ≤ (n : Int) := by omega
    obtain ⟨b, off, rfl, hPb, hbk, hat⟩ := hA0.at_ n hnl
    have hbw : b < w.heap.size := hPb.2
    obtain ⟨x, hx⟩ : ∃ x, l[n] = x := ⟨_, rfl⟩
    rw [hx] at hat hfd0 hfx1 hfx2
    obtain ⟨q0, q1, pp, cc, q2, q5⟩ := hat
    have hix2 : Hid (Calls Tryz.prog 34 #[.agg #[.slice (some ⟨b, off, none⟩) (l.length : Nat) cp], .string kd] w0 fun e w' => e = .returned (.int .i64 (n : Int)) ∧ Below w0.heap.size w0 w') := hix
    clear hx hix hA hAk hA0 hf hnl hl
    replace hfx2 := Lib.hid hfx2
    go_upto_region 4 with (go_at_call 34; refine hix2.out.mono ?_; rintro e w1 ⟨rfl, hb1⟩)
    have zB1 := (hb1.block (w.heap.size + 1) (by omega)).trans hzB
    have zA1 := (hb1.block w.heap.size (by omega)).trans hzA
    have c1 : w1.cell? ⟨w.heap.size, 0, none⟩ = some (.slice (some ⟨b, off, none⟩) l.length cp) := by rw [Lib.cell_of_heap zA1]; rfl
    have p0 := (hb1.cell (p := ⟨b, off + n * 3, none⟩) hbk).trans q0
    have p1 := (hb1.cell (p := ⟨b, off + n * 3 + 1, none⟩) hbk).trans q1
    have p2 := (hb1.cell (p := ⟨b, off + n * 3 + 2, none⟩) hbk).trans q2
    have hq1 := q5.same (SameB.of_below hb1)
    have hs1 := hb1.size
    have hbX := (Below.refl w1.heap.size w1).alloc (Nat.le_refl _) (.cells #[.string x.kind, .string x.key, .slice pp (x.attrs.length : Nat) cc] 63)
    have zX := heap_alloc_new w1 (.cells #[.string x.kind, .string x.key, .slice pp (x.attrs.length : Nat) cc] 63)
    have zB2 := (hbX.block (w.heap.size + 1) (by omega)).trans zB1
    have hXs : w1.heap.size < (w1.alloc (.cells #[.string x.kind, .string x.key, .slice pp (x.attrs.length : Nat) cc] 63)).heap.size := by simp
    go_upto_region 5 with (fail)
    generalize w1.alloc (.cells #[.string x.kind, .string x.key, .slice pp (x.attrs.length : Nat) cc] 63) = w2 at hbX zX zB2 hXs ⊢
    have hB2 := hbB.trans ((hb1.trans (hbX.mono hs1)).mono (by omega))
    have hq2 := hq1.same (SameB.of_below hbX)
    have x1 : w2.cell? ⟨w1.heap.size, 1, none⟩ = some (.string x.key) := by rw [Lib.cell_of_heap zX]; rfl
    have x2 : w2.cell? ⟨w1.heap.size, 2, none⟩ = some (.slice pp x.attrs.length cc) := by rw [Lib.cell_of_heap zX]; rfl
    cases hkey : isKey nm with
    | true =>
      rw [hkey] at hik
      have hfd := Lib.hid (hfd0.out.trans (lookIn_key hkey))
      clear hkey hfx2
      have r0 : w2.cell? ⟨w.heap.size + 1, 0, none⟩ = some (.int .i64 0) := by rw [Lib.cell_of_heap zB2]; rfl
      have r1 : w2.cell? ⟨w.heap.size + 1, 1, none⟩ = some (.int .i64 0) := by rw [Lib.cell_of_heap zB2]; rfl
      have r2 : w2.cell? ⟨w.heap.size + 1, 2, none⟩ = some (.string ⟨#[]⟩) := by rw [Lib.cell_of_heap zB2]; rfl
      have r3 : w2.cell? ⟨w.heap.size + 1, 3, none⟩ = some (.slice none 0 0) := by rw [Lib.cell_of_heap zB2]; rfl
      have rf : ∀ i, w2.frozen? ⟨w.heap.size + 1, i, none⟩ = false := Lib.frozen_of_heap zB2
      have zB4 : ((((w2.setCell ⟨w.heap.size + 1, 0, none⟩ (.int .i64 3)).setCell ⟨w.heap.size + 1, 1, none⟩ (.int .i64 0)).setCell ⟨w.heap.size + 1, 2, none⟩ (.string x.key)).setCell ⟨w.heap.size + 1, 3, none⟩ (.slice none 0 0)).heap[w.heap.size + 1]? = some (.cells #[.int .i64 3, .int .i64 0, .string x.key, .slice none 0 0] 41 (0, 0)) := (box_put (box_put (box_put (box_put zB2 _) _) _) _)
      have hb4 := ((((hB2.setCell (p := ⟨w.heap.size + 1, 0, none⟩) (Nat.le_succ _) (.int .i64 3)).setCell (p := ⟨w.heap.size + 1, 1, none⟩) (Nat.le_succ _) (.int .i64 0)).setCell (p := ⟨w.heap.size + 1, 2, none⟩) (Nat.le_succ _) (.string x.key)).setCell (p := ⟨w.heap.size + 1, 3, none⟩) (Nat.le_succ _) (.slice none 0 0))
      go_wp2
      generalize World.setCell _ _ _ = w4 at zB4 hb4 ⊢
      have s0 : w4.cell? ⟨w.heap.size + 1, 0, none⟩ = some (.int .i64 3) := by rw [Lib.cell_of_heap zB4]; rfl
      have s1 : w4.cell? ⟨w.heap.size + 1, 1, none⟩ = some (.int .i64 0) := by rw [Lib.cell_of_heap zB4]; rfl
      have s2 : w4.cell? ⟨w.heap.size + 1, 2, none⟩ = some (.string x.key) := by rw [Lib.cell_of_heap zB4]; rfl
      have s3 : w4.cell? ⟨w.heap.size + 1, 3, none⟩ = some (.slice none 0 0) := by rw [Lib.cell_of_heap zB4]; rfl
      refine bodyPost_ret (v := .tuple #[.agg #[.int .i64 3, .int .i64 0, .string x.key, .slice none 0 0], .bool true]) (by simp [results, Tryz.results19, go_sem, s0, s1, s2, s3]) rfl ⟨⟨none, 0, by rw [hfd.out]; rfl, by rw [hfd.out]; exact ⟨fun _ => rfl, Nat.zero_le _, fun i hi => by simp at hi⟩⟩, hb4⟩
    | false =>
      rw [hkey] at hik
      replace hkey := Lib.hid hkey
      have hX1 : w.heap.size + 2 ≤ w1.heap.size := by omega
      have hX1' : w.heap.size < w1.heap.size := by omega
      generalize w1.heap.size = X at zX hXs x1 x2 hX1 hX1' ⊢
      clear c1 p0 p1 p2 zA1 zB1 hb1 hbX hq1 hix2 q0 q1 q2 q5 hzA hzB c0 hs1
      go_wp2
      go_loopw [11, 31] (fun _ i wr => ∃ m : Nat, m ≤ x.attrs.length ∧ i = .int .i64 m ∧ Below w2.heap.size w2 wr ∧ ∀ j (hj : j < x.attrs.length), j < m → hasName nm x.attrs[j] = false) (fun _ i _ => x.attrs.length - (intOf i).toNat)
      case atStart => exact ⟨0, Nat.zero_le _, rfl, Below.refl _ _, fun j _ hj => by omega⟩
      case round =>
        obtain ⟨m, hm, rfl, hbl, hno⟩ := hrel
        by_cases hlt : m < x.attrs.length
        · obtain ⟨b2, off2, rfl, hPb2, hbk2, hat2⟩ := hq2.at_ m hlt
          obtain ⟨d0, d1, d2, d3, lp, lc, d4, hlp⟩ := hat2.same (SameB.of_below hbl) hPb2 hbk2
          have hmI2 : (m : Int) < (x.attrs.length : Int) := by omega
          have hmI3 : (0 : Int) ≤ (m : Int) := by omega
          have hk2 : (x.attrs[m].name.toList == nm.toList) = hasName nm x.attrs[m] := rfl
          have hfx3 := hfx2.out x.attrs[m] (List.getElem_mem hlt)
          cases hk : hasName nm x.attrs[m] with
          | true =>
            rw [hk] at hk2
            have hfd := Lib.hid (hfd0.out.trans (lookIn_some hkey.out hlt hk hno))
            obtain ⟨y, hy⟩ : ∃ y, x.attrs[m] = y := ⟨_, rfl⟩
            rw [hy] at d0 d1 d2 d3 d4 hlp hk2 hfd hfx3
            clear hy hk hat2 hno
            have hal := (Below.refl wr.heap.size wr).alloc (Nat.le_refl _) (.cells #[.string y.name, .int .i64 y.val.kind, .int .i64 y.val.num, .string y.val.text, .slice lp (y.val.list.length : Nat) lc] 72)
            have hcv := copyValue_any y.val lp lc _ (hlp.same (SameB.of_below hal)) hfx3
            unfold Val.agg at hcv
            replace hcv := Lib.hid hcv
            have hbl2 := hbl.trans (hal.mono hbl.size)
            have zBr := (hbl2.block (w.heap.size + 1) (by omega)).trans zB2
            have hs2 := hbl2.size
            clear hfx3
            have zY := heap_alloc_new wr (.cells #[.string y.name, .int .i64 y.val.kind, .int .i64 y.val.num, .string y.val.text, .slice lp (y.val.list.length : Nat) lc] 72)
            go_upto_region 11 with (fail)
            generalize wr.alloc (.cells #[.string y.name, .int .i64 y.val.kind, .int .i64 y.val.num, .string y.val.text, .slice lp (y.val.list.length : Nat) lc] 72) = w5 at hcv hbl2 zBr hs2 hal zY ⊢
            have y1 : w5.cell? ⟨wr.heap.size, 1, none⟩ = some (.int .i64 y.val.kind) := by rw [Lib.cell_of_heap zY]; rfl
            have y2 : w5.cell? ⟨wr.heap.size, 2, none⟩ = some (.int .i64 y.val.num) := by rw [Lib.cell_of_heap zY]; rfl
            have y3 : w5.cell? ⟨wr.heap.size, 3, none⟩ = some (.string y.val.text) := by rw [Lib.cell_of_heap zY]; rfl
            have y4 : w5.cell? ⟨wr.heap.size, 4, none⟩ = some (.slice lp y.val.list.length lc) := by rw [Lib.cell_of_heap zY]; rfl
            go_wp2_with (go_at_call 49; refine hcv.out.mono ?_; rintro e w6 ⟨⟨q, d, rfl, hq⟩, hb6⟩; have zB6 := (hb6.block (w.heap.size + 1) (by omega)).trans zBr; have r0 : w6.cell? ⟨w.heap.size + 1, 0, none⟩ = some (.int .i64 0) := (by rw [Lib.cell_of_heap zB6]; rfl); have r1 : w6.cell? ⟨w.heap.size + 1, 1, none⟩ = some (.int .i64 0) := (by rw [Lib.cell_of_heap zB6]; rfl); have r2 : w6.cell? ⟨w.heap.size + 1, 2, none⟩ = some (.string ⟨#[]⟩) := (by rw [Lib.cell_of_heap zB6]; rfl); have r3 : w6.cell? ⟨w.heap.size + 1, 3, none⟩ = some (.slice none 0 0) := (by rw [Lib.cell_of_heap zB6]; rfl); have rf : ∀ i, w6.frozen? ⟨w.heap.size + 1, i, none⟩ = false := Lib.frozen_of_heap zB6)
            have hXR : ¬ (w5.heap.size ≤ w.heap.size + 1) := by omega
            have zB4 : ((((w6.setCell ⟨w.heap.size + 1, 0, none⟩ (.int .i64 y.val.kind)).setCell ⟨w.heap.size + 1, 1, none⟩ (.int .i64 y.val.num)).setCell ⟨w.heap.size + 1, 2, none⟩ (.string y.val.text)).setCell ⟨w.heap.size + 1, 3, none⟩ (.slice q (y.val.list.length : Nat) d)).heap[w.heap.size + 1]? = some (.cells #[.int .i64 y.val.kind, .int .i64 y.val.num, .string y.val.text, .slice q (y.val.list.length : Nat) d] 41 (0, 0)) := (box_put (box_put (box_put (box_put zB6 _) _) _) _)
            have hb4 := (((((hB2.trans ((hbl2.trans (hb6.mono hs2)).mono (by omega))).setCell (p := ⟨w.heap.size + 1, 0, none⟩) (Nat.le_succ _) (.int .i64 y.val.kind)).setCell (p := ⟨w.heap.size + 1, 1, none⟩) (Nat.le_succ _) (.int .i64 y.val.num)).setCell (p := ⟨w.heap.size + 1, 2, none⟩) (Nat.le_succ _) (.string y.val.text)).setCell (p := ⟨w.heap.size + 1, 3, none⟩) (Nat.le_succ _) (.slice q (y.val.list.length : Nat) d))
            have hq4 : ListP (fun b => w5.heap.size ≤ b) q d y.val.list _ := hq.same (((((SameB.refl _ _).set (B := w.heap.size + 1) hXR 0 (.int .i64 y.val.kind)).set (B := w.heap.size + 1) hXR 1 (.int .i64 y.val.num)).set (B := w.heap.size + 1) hXR 2 (.string y.val.text)).set (B := w.heap.size + 1) hXR 3 (.slice q (y.val.list.length : Nat) d))
            skip
            generalize World.setCell _ _ _ = w4 at zB4 hb4 hq4 ⊢
            have s0 : w4.cell? ⟨w.heap.size + 1, 0, none⟩ = some (.int .i64 y.val.kind) := by rw [Lib.cell_of_heap zB4]; rfl
            have s1 : w4.cell? ⟨w.heap.size + 1, 1, none⟩ = some (.int .i64 y.val.num) := by rw [Lib.cell_of_heap zB4]; rfl
            have s2 : w4.cell? ⟨w.heap.size + 1, 2, none⟩ = some (.string y.val.text) := by rw [Lib.cell_of_heap zB4]; rfl
            have s3 : w4.cell? ⟨w.heap.size + 1, 3, none⟩ = some (.slice q (y.val.list.length : Nat) d) := by rw [Lib.cell_of_heap zB4]; rfl
            refine bodyPost_ret (v := .tuple #[.agg #[.int .i64 y.val.kind, .int .i64 y.val.num, .string y.val.text, .slice q (y.val.list.length : Nat) d], .bool true]) (by simp [results, Tryz.results19, go_sem, s0, s1, s2, s3]) rfl ⟨⟨q, d, by rw [hfd.out]; rfl, by rw [hfd.out]; exact hq4.mono fun b _ hb => by omega⟩, hb4⟩
          | false =>
            rw [hk] at hk2
            have hno2 : ∀ j (hj : j < x.attrs.length), j < m + 1 → hasName nm x.attrs[j] = false := fun j hj hjn => by
              rcases Nat.lt_or_ge j m with h1 | h1
              · exact hno j hj h1
              · have : j = m := by omega
                subst this
                exact hk
            replace hno2 := Lib.hid hno2
            obtain ⟨y, hy⟩ : ∃ y, x.attrs[m] = y := ⟨_, rfl⟩
            rw [hy] at d0 d1 d2 d3 d4 hlp hk2 hfx3
            clear hy hk hat2 hno hfx3
            have hal := (Below.refl wr.heap.size wr).alloc (Nat.le_refl _) (.cells #[.string y.name, .int .i64 y.val.kind, .int .i64 y.val.num, .string y.val.text, .slice lp (y.val.list.length : Nat) lc] 72)
            go_wp2
            go_roundw
            case rel => exact ⟨m + 1, by omega, by go_num, hbl.trans (hal.mono hbl.size), hno2.out⟩
            case measure => simp [intOf]; omega
        · obtain rfl : m = x.attrs.length := by omega
          have hmI : ¬ (x.attrs.length : Int) < (x.attrs.length : Int) := by omega
          have hfd := Lib.hid (hfd0.out.trans (lookIn_none hkey.out (fun j hj => hno j hj hj)))
          have zBr := (hbl.block (w.heap.size + 1) (by omega)).trans zB2
          clear hno
          have r0 : wr.cell? ⟨w.heap.size + 1, 0, none⟩ = some (.int .i64 0) := by rw [Lib.cell_of_heap zBr]; rfl
          have r1 : wr.cell? ⟨w.heap.size + 1, 1, none⟩ = some (.int .i64 0) := by rw [Lib.cell_of_heap zBr]; rfl
          have r2 : wr.cell? ⟨w.heap.size + 1, 2, none⟩ = some (.string ⟨#[]⟩) := by rw [Lib.cell_of_heap zBr]; rfl
          have r3 : wr.cell? ⟨w.heap.size + 1, 3, none⟩ = some (.slice none 0 0) := by rw [Lib.cell_of_heap zBr]; rfl
          have rf : ∀ i, wr.frozen? ⟨w.heap.size + 1, i, none⟩ = false := Lib.frozen_of_heap zBr
          have zB4 : ((((wr.setCell ⟨w.heap.size + 1, 0, none⟩ (.int .i64 0)).setCell ⟨w.heap.size + 1, 1, none⟩ (.int .i64 0)).setCell ⟨w.heap.size + 1, 2, none⟩ (.string ⟨#[]⟩)).setCell ⟨w.heap.size + 1, 3, none⟩ (.slice none 0 0)).heap[w.heap.size + 1]? = some (.cells #[.int .i64 0, .int .i64 0, .string ⟨#[]⟩, .slice none 0 0] 41 (0, 0)) := (box_put (box_put (box_put (box_put zBr _) _) _) _)
          have hb4 := (((((hB2.trans (hbl.mono (by omega))).setCell (p := ⟨w.heap.size + 1, 0, none⟩) (Nat.le_succ _) (.int .i64 0)).setCell (p := ⟨w.heap.size + 1, 1, none⟩) (Nat.le_succ _) (.int .i64 0)).setCell (p := ⟨w.heap.size + 1, 2, none⟩) (Nat.le_succ _) (.string ⟨#[]⟩)).setCell (p := ⟨w.heap.size + 1, 3, none⟩) (Nat.le_succ _) (.slice none 0 0))
          go_wp2
          generalize World.setCell _ _ _ = w4 at zB4 hb4 ⊢
          have s0 : w4.cell? ⟨w.heap.size + 1, 0, none⟩ = some (.int .i64 0) := by rw [Lib.cell_of_heap zB4]; rfl
          have s1 : w4.cell? ⟨w.heap.size + 1, 1, none⟩ = some (.int .i64 0) := by rw [Lib.cell_of_heap zB4]; rfl
          have s2 : w4.cell? ⟨w.heap.size + 1, 2, none⟩ = some (.string ⟨#[]⟩) := by rw [Lib.cell_of_heap zB4]; rfl
          have s3 : w4.cell? ⟨w.heap.size + 1, 3, none⟩ = some (.slice none 0 0) := by rw [Lib.cell_of_heap zB4]; rfl
          refine bodyPost_ret (v := .tuple #[.agg #[.int .i64 0, .int .i64 0, .string ⟨#[]⟩, .slice none 0 0], .bool false]) (by simp [results, Tryz.results19, go_sem, s0, s1, s2, s3]) rfl ⟨⟨none, 0, by rw [hfd.out]; rfl, by rw [hfd.out]; exact ⟨fun _ => rfl, Nat.zero_le _, fun i hi => by simp [noV] at hi⟩⟩, hb4⟩
set_option linter.unusedSimpArgs false in
set_option linter.unusedVariables false in
set_option maxHeartbeats 8000000 in
set_option maxRecDepth 100000 in
theorem refLookup_any {P : Nat → Prop} (a0 : Option Addr) (cp : Nat) (l : List Ctx) (kd nm : ByteArray) (w : World) (hA : CtxsP P a0 cp l w) (hl : l.length ≤ 9223372036854775000) (hf : ∀ x ∈ l, x.attrs.length ≤ 1000) :
    Calls Tryz.prog 22 #[.agg #[.slice a0 (l.length : Nat) cp], .string kd, .string nm] w fun e w' => LookAt (fun b => P b ∧ b < w.heap.size) kd nm l e w' ∧ Below w.heap.size w w' := by
  have hbA := (Below.refl w.heap.size w).alloc (Nat.le_refl _) (.cells #[.slice a0 (l.length : Nat) cp] 25)
  have hbB := hbA.alloc hbA.size (.cells #[.int .i64 0, .int .i64 0, .string ⟨#[]⟩, .slice none 0 0] 41)
  have hzA : ((w.alloc (.cells #[.slice a0 (l.length : Nat) cp] 25)).alloc (.cells #[.int .i64 0, .int .i64 0, .string ⟨#[]⟩, .slice none 0 0] 41)).heap[w.heap.size]? = some (.cells #[.slice a0 (l.length : Nat) cp] 25 (0, 0)) := (Lib.alloc_old _ _ _ (by simp)).trans (heap_alloc_new w _)
  have hzB : ((w.alloc (.cells #[.slice a0 (l.length : Nat) cp] 25)).alloc (.cells #[.int .i64 0, .int .i64 0, .string ⟨#[]⟩, .slice none 0 0] 41)).heap[w.heap.size + 1]? = some (.cells #[.int .i64 0, .int .i64 0, .string ⟨#[]⟩, .slice none 0 0] 41 (0, 0)) := by
    have := heap_alloc_new (w.alloc (.cells #[.slice a0 (l.length : Nat) cp] 25)) (.cells #[.int .i64 0, .int .i64 0, .string ⟨#[]⟩, .slice none 0 0] 41)
    simpa using this
  have hs0 : ((w.alloc (.cells #[.slice a0 (l.length : Nat) cp] 25)).alloc (.cells #[.int .i64 0, .int .i64 0, .string ⟨#[]⟩, .slice none 0 0] 41)).heap.size = w.heap.size + 2 := by simp
  have hik : (nm.toList == [107, 101, 121]) = isKey nm := rfl
  have hxl := foundC_len (kd := kd) hf
  clear hf
  go_enter Tryz.func22, Tryz.ntmps22
  go_upto_region 1 with (fail)
  generalize ((w.alloc (.cells #[.slice a0 (l.length : Nat) cp] 25)).alloc (.cells #[.int .i64 0, .int .i64 0, .string ⟨#[]⟩, .slice none 0 0] 41)) = w0 at hbB hzA hzB hs0 ⊢
  have hAk : CtxsP (fun b => P b ∧ b < w.heap.size) a0 cp l w := hA.mono fun b hb h => ⟨h, hb⟩
  have hA0 := hAk.same (SameB.of_below hbB)
  have hfi := Lib.hid (refFind_any a0 cp l kd w0 hA0 hl)
  have c0 : w0.cell? ⟨w.heap.size, 0, none⟩ = some (.slice a0 l.length cp) := by rw [Lib.cell_of_heap hzA]; rfl
  have hfd0 := foundV_of kd nm l
  unfold FoundAt at hfi
  clear hbA hA hAk hA0 hl
  obtain ⟨⟨x, ok⟩, hx⟩ : ∃ x, foundC kd l = x := ⟨_, rfl⟩
  rw [hx] at hfi hfd0 hxl
  simp only at hfi hfd0 hxl
  clear hx
  replace hfd0 := Lib.hid hfd0
  go_upto_region 2 with (go_at_call 46; refine hfi.out.mono ?_; rintro e w1 ⟨⟨pp, cc, rfl, hq⟩, hb1⟩)
  have zB1 := (hb1.block (w.heap.size + 1) (by omega)).trans hzB
  have hs1 := hb1.size
  have hbX := (Below.refl w1.heap.size w1).alloc (Nat.le_refl _) (.cells #[.string x.kind, .string x.key, .slice pp (x.attrs.length : Nat) cc] 63)
  have zX := heap_alloc_new w1 (.cells #[.string x.kind, .string x.key, .slice pp (x.attrs.length : Nat) cc] 63)
  have zB2 := (hbX.block (w.heap.size + 1) (by omega)).trans zB1
  have hXs : w1.heap.size < (w1.alloc (.cells #[.string x.kind, .string x.key, .slice pp (x.attrs.length : Nat) cc] 63)).heap.size := by simp
  generalize w1.alloc (.cells #[.string x.kind, .string x.key, .slice pp (x.attrs.length : Nat) cc] 63) = w2 at hbX zX zB2 hXs ⊢
  have hB2 := hbB.trans ((hb1.trans (hbX.mono hs1)).mono (by omega))
  have hq2 := hq.same (SameB.of_below hbX)
  have x1 : w2.cell? ⟨w1.heap.size, 1, none⟩ = some (.string x.key) := by rw [Lib.cell_of_heap zX]; rfl
  have x2 : w2.cell? ⟨w1.heap.size, 2, none⟩ = some (.slice pp x.attrs.length cc) := by rw [Lib.cell_of_heap zX]; rfl
  have hX1 : w.heap.size + 2 ≤ w1.heap.size := by omega
  generalize w1.heap.size = X at zX hXs x1 x2 hX1 ⊢
  clear hb1 hbX hq hfi hzA hzB c0 hs1 zB1
  cases ok with
  | false =>
    have hfd := Lib.hid (hfd0.out.trans (if_neg (by simp)))
    have r0 : w2.cell? ⟨w.heap.size + 1, 0, none⟩ = some (.int .i64 0) := by rw [Lib.cell_of_heap zB2]; rfl
    have r1 : w2.cell? ⟨w.heap.size + 1, 1, none⟩ = some (.int .i64 0) := by rw [Lib.cell_of_heap zB2]; rfl
    have r2 : w2.cell? ⟨w.heap.size + 1, 2, none⟩ = some (.string ⟨#[]⟩) := by rw [Lib.cell_of_heap zB2]; rfl
    have r3 : w2.cell? ⟨w.heap.size + 1, 3, none⟩ = some (.slice none 0 0) := by rw [Lib.cell_of_heap zB2]; rfl
    have rf : ∀ i, w2.frozen? ⟨w.heap.size + 1, i, none⟩ = false := Lib.frozen_of_heap zB2
    have zB4 : ((((w2.setCell ⟨w.heap.size + 1, 0, none⟩ (.int .i64 0)).setCell ⟨w.heap.size + 1, 1, none⟩ (.int .i64 0)).setCell ⟨w.heap.size + 1, 2, none⟩ (.string ⟨#[]⟩)).setCell ⟨w.heap.size + 1, 3, none⟩ (.slice none 0 0)).heap[w.heap.size + 1]? = some (.cells #[.int .i64 0, .int .i64 0, .string ⟨#[]⟩, .slice none 0 0] 41 (0, 0)) := (box_put (box_put (box_put (box_put zB2 _) _) _) _)
    have hb4 := ((((hB2.setCell (p := ⟨w.heap.size + 1, 0, none⟩) (Nat.le_succ _) (.int .i64 0)).setCell (p := ⟨w.heap.size + 1, 1, none⟩) (Nat.le_succ _) (.int .i64 0)).setCell (p := ⟨w.heap.size + 1, 2, none⟩) (Nat.le_succ _) (.string ⟨#[]⟩)).setCell (p := ⟨w.heap.size + 1, 3, none⟩) (Nat.le_succ _) (.slice none 0 0))
    go_wp2
    generalize World.setCell _ _ _ = w4 at zB4 hb4 ⊢
    have s0 : w4.cell? ⟨w.heap.size + 1, 0, none⟩ = some (.int .i64 0) := by rw [Lib.cell_of_heap zB4]; rfl
    have s1 : w4.cell? ⟨w.heap.size + 1, 1, none⟩ = some (.int .i64 0) := by rw [Lib.cell_of_heap zB4]; rfl
    have s2 : w4.cell? ⟨w.heap.size + 1, 2, none⟩ = some (.string ⟨#[]⟩) := by rw [Lib.cell_of_heap zB4]; rfl
    have s3 : w4.cell? ⟨w.heap.size + 1, 3, none⟩ = some (.slice none 0 0) := by rw [Lib.cell_of_heap zB4]; rfl
    refine bodyPost_ret (v := .tuple #[.agg #[.int .i64 0, .int .i64 0, .string ⟨#[]⟩, .slice none 0 0], .bool false]) (by simp [results, Tryz.results22, go_sem, s0, s1, s2, s3]) rfl ⟨⟨none, 0, by rw [hfd.out]; rfl, by rw [hfd.out]; exact ⟨fun _ => rfl, Nat.zero_le _, fun i hi => by simp [noV] at hi⟩⟩, hb4⟩
  | true =>
    have hfd1 := Lib.hid (hfd0.out.trans (if_pos rfl))
    cases hkey : isKey nm with
    | true =>
      rw [hkey] at hik
      have hfd := Lib.hid (hfd1.out.trans (lookIn_key hkey))
      clear hkey
      have r0 : w2.cell? ⟨w.heap.size + 1, 0, none⟩ = some (.int .i64 0) := by rw [Lib.cell_of_heap zB2]; rfl
      have r1 : w2.cell? ⟨w.heap.size + 1, 1, none⟩ = some (.int .i64 0) := by rw [Lib.cell_of_heap zB2]; rfl
      have r2 : w2.cell? ⟨w.heap.size + 1, 2, none⟩ = some (.string ⟨#[]⟩) := by rw [Lib.cell_of_heap zB2]; rfl
      have r3 : w2.cell? ⟨w.heap.size + 1, 3, none⟩ = some (.slice none 0 0) := by rw [Lib.cell_of_heap zB2]; rfl
      have rf : ∀ i, w2.frozen? ⟨w.heap.size + 1, i, none⟩ = false := Lib.frozen_of_heap zB2
      have zB4 : ((((w2.setCell ⟨w.heap.size + 1, 0, none⟩ (.int .i64 3)).setCell ⟨w.heap.size + 1, 1, none⟩ (.int .i64 0)).setCell ⟨w.heap.size + 1, 2, none⟩ (.string x.key)).setCell ⟨w.heap.size + 1, 3, none⟩ (.slice none 0 0)).heap[w.heap.size + 1]? = some (.cells #[.int .i64 3, .int .i64 0, .string x.key, .slice none 0 0] 41 (0, 0)) := (box_put (box_put (box_put (box_put zB2 _) _) _) _)
      have hb4 := ((((hB2.setCell (p := ⟨w.heap.size + 1, 0, none⟩) (Nat.le_succ _) (.int .i64 3)).setCell (p := ⟨w.heap.size + 1, 1, none⟩) (Nat.le_succ _) (.int .i64 0)).setCell (p := ⟨w.heap.size + 1, 2, none⟩) (Nat.le_succ _) (.string x.key)).setCell (p := ⟨w.heap.size + 1, 3, none⟩) (Nat.le_succ _) (.slice none 0 0))
      go_wp2
      generalize World.setCell _ _ _ = w4 at zB4 hb4 ⊢
      have s0 : w4.cell? ⟨w.heap.size + 1, 0, none⟩ = some (.int .i64 3) := by rw [Lib.cell_of_heap zB4]; rfl
      have s1 : w4.cell? ⟨w.heap.size + 1, 1, none⟩ = some (.int .i64 0) := by rw [Lib.cell_of_heap zB4]; rfl
      have s2 : w4.cell? ⟨w.heap.size + 1, 2, none⟩ = some (.string x.key) := by rw [Lib.cell_of_heap zB4]; rfl
      have s3 : w4.cell? ⟨w.heap.size + 1, 3, none⟩ = some (.slice none 0 0) := by rw [Lib.cell_of_heap zB4]; rfl
      refine bodyPost_ret (v := .tuple #[.agg #[.int .i64 3, .int .i64 0, .string x.key, .slice none 0 0], .bool true]) (by simp [results, Tryz.results22, go_sem, s0, s1, s2, s3]) rfl ⟨⟨none, 0, by rw [hfd.out]; rfl, by rw [hfd.out]; exact ⟨fun _ => rfl, Nat.zero_le _, fun i hi => by simp at hi⟩⟩, hb4⟩
    | false =>
      rw [hkey] at hik
      replace hkey := Lib.hid hkey
      go_wp2
      go_loopw [10] (fun i wr => ∃ m : Nat, m ≤ x.attrs.length ∧ i = .int .i64 m ∧ Below w2.heap.size w2 wr ∧ ∀ j (hj : j < x.attrs.length), j < m → hasName nm x.attrs[j] = false) (fun i _ => x.attrs.length - (intOf i).toNat)
      case atStart => exact ⟨0, Nat.zero_le _, rfl, Below.refl _ _, fun j _ hj => by omega⟩
      case round =>
        obtain ⟨m, hm, rfl, hbl, hno⟩ := hrel
        have xr2 := (hbl.cell (p := ⟨X, 2, none⟩) hXs).trans x2
        have zBr := (hbl.block (w.heap.size + 1) (by omega)).trans zB2
        by_cases hlt : m < x.attrs.length
        · obtain ⟨b2, off2, rfl, hPb2, hbk2, hat2⟩ := hq2.at_ m hlt
          obtain ⟨d0, d1, d2, d3, lp, lc, d4, hlp⟩ := hat2.same (SameB.of_below hbl) hPb2 hbk2
          have hmI2 : (m : Int) < (x.attrs.length : Int) := by omega
          have hmI3 : (0 : Int) ≤ (m : Int) := by omega
          have hb2w : b2 < w.heap.size := hPb2.1.2
          have hk2 : (x.attrs[m].name.toList == nm.toList) = hasName nm x.attrs[m] := rfl
          cases hk : hasName nm x.attrs[m] with
          | true =>
            rw [hk] at hk2
            have hfd := Lib.hid (hfd1.out.trans (lookIn_some hkey.out hlt hk hno))
            obtain ⟨y, hy⟩ : ∃ y, x.attrs[m] = y := ⟨_, rfl⟩
            rw [hy] at d0 d1 d2 d3 d4 hlp hk2 hfd
            clear hy hk hat2 hno
            have hXR : ¬ (((P (w.heap.size + 1) ∧ w.heap.size + 1 < w.heap.size) ∧ w.heap.size + 1 < w0.heap.size)) := fun h => by omega
            have r0 : wr.cell? ⟨w.heap.size + 1, 0, none⟩ = some (.int .i64 0) := by rw [Lib.cell_of_heap zBr]; rfl
            have r1 : wr.cell? ⟨w.heap.size + 1, 1, none⟩ = some (.int .i64 0) := by rw [Lib.cell_of_heap zBr]; rfl
            have r2 : wr.cell? ⟨w.heap.size + 1, 2, none⟩ = some (.string ⟨#[]⟩) := by rw [Lib.cell_of_heap zBr]; rfl
            have r3 : wr.cell? ⟨w.heap.size + 1, 3, none⟩ = some (.slice none 0 0) := by rw [Lib.cell_of_heap zBr]; rfl
            have rf : ∀ i, wr.frozen? ⟨w.heap.size + 1, i, none⟩ = false := Lib.frozen_of_heap zBr
            have zB4 : ((((wr.setCell ⟨w.heap.size + 1, 0, none⟩ (.int .i64 y.val.kind)).setCell ⟨w.heap.size + 1, 1, none⟩ (.int .i64 y.val.num)).setCell ⟨w.heap.size + 1, 2, none⟩ (.string y.val.text)).setCell ⟨w.heap.size + 1, 3, none⟩ (.slice lp (y.val.list.length : Nat) lc)).heap[w.heap.size + 1]? = some (.cells #[.int .i64 y.val.kind, .int .i64 y.val.num, .string y.val.text, .slice lp (y.val.list.length : Nat) lc] 41 (0, 0)) := (box_put (box_put (box_put (box_put zBr _) _) _) _)
            have hb4 := (((((hB2.trans (hbl.mono (by omega))).setCell (p := ⟨w.heap.size + 1, 0, none⟩) (Nat.le_succ _) (.int .i64 y.val.kind)).setCell (p := ⟨w.heap.size + 1, 1, none⟩) (Nat.le_succ _) (.int .i64 y.val.num)).setCell (p := ⟨w.heap.size + 1, 2, none⟩) (Nat.le_succ _) (.string y.val.text)).setCell (p := ⟨w.heap.size + 1, 3, none⟩) (Nat.le_succ _) (.slice lp (y.val.list.length : Nat) lc))
            have hq4 : ListP (fun b => (P b ∧ b < w.heap.size) ∧ b < w0.heap.size) lp lc y.val.list _ := hlp.same (((((SameB.refl _ _).set (B := w.heap.size + 1) hXR 0 (.int .i64 y.val.kind)).set (B := w.heap.size + 1) hXR 1 (.int .i64 y.val.num)).set (B := w.heap.size + 1) hXR 2 (.string y.val.text)).set (B := w.heap.size + 1) hXR 3 (.slice lp (y.val.list.length : Nat) lc))
            go_wp2
            generalize World.setCell _ _ _ = w4 at zB4 hb4 hq4 ⊢
            have s0 : w4.cell? ⟨w.heap.size + 1, 0, none⟩ = some (.int .i64 y.val.kind) := by rw [Lib.cell_of_heap zB4]; rfl
            have s1 : w4.cell? ⟨w.heap.size + 1, 1, none⟩ = some (.int .i64 y.val.num) := by rw [Lib.cell_of_heap zB4]; rfl
            have s2 : w4.cell? ⟨w.heap.size + 1, 2, none⟩ = some (.string y.val.text) := by rw [Lib.cell_of_heap zB4]; rfl
            have s3 : w4.cell? ⟨w.heap.size + 1, 3, none⟩ = some (.slice lp (y.val.list.length : Nat) lc) := by rw [Lib.cell_of_heap zB4]; rfl
            refine bodyPost_ret (v := .tuple #[.agg #[.int .i64 y.val.kind, .int .i64 y.val.num, .string y.val.text, .slice lp (y.val.list.length : Nat) lc], .bool true]) (by simp [results, Tryz.results22, go_sem, s0, s1, s2, s3]) rfl ⟨⟨lp, lc, by rw [hfd.out]; rfl, by rw [hfd.out]; exact hq4.mono fun _ _ h => h.1⟩, hb4⟩
          | false =>
            rw [hk] at hk2
            have hno2 : ∀ j (hj : j < x.attrs.length), j < m + 1 → hasName nm x.attrs[j] = false := fun j hj hjn => by
              rcases Nat.lt_or_ge j m with h1 | h1
              · exact hno j hj h1
              · have : j = m := by omega
                subst this
                exact hk
            replace hno2 := Lib.hid hno2
            obtain ⟨y, hy⟩ : ∃ y, x.attrs[m] = y := ⟨_, rfl⟩
            rw [hy] at d0 d1 d2 d3 d4 hlp hk2
            clear hy hk hat2 hno
            go_wp2
            go_roundw
            case rel => exact ⟨m + 1, by omega, by go_num, hbl, hno2.out⟩
            case measure => simp [intOf]; omega
        · obtain rfl : m = x.attrs.length := by omega
          have hmI : ¬ (x.attrs.length : Int) < (x.attrs.length : Int) := by omega
          have hfd := Lib.hid (hfd1.out.trans (lookIn_none hkey.out (fun j hj => hno j hj hj)))
          clear hno
          have r0 : wr.cell? ⟨w.heap.size + 1, 0, none⟩ = some (.int .i64 0) := by rw [Lib.cell_of_heap zBr]; rfl
          have r1 : wr.cell? ⟨w.heap.size + 1, 1, none⟩ = some (.int .i64 0) := by rw [Lib.cell_of_heap zBr]; rfl
          have r2 : wr.cell? ⟨w.heap.size + 1, 2, none⟩ = some (.string ⟨#[]⟩) := by rw [Lib.cell_of_heap zBr]; rfl
          have r3 : wr.cell? ⟨w.heap.size + 1, 3, none⟩ = some (.slice none 0 0) := by rw [Lib.cell_of_heap zBr]; rfl
          have rf : ∀ i, wr.frozen? ⟨w.heap.size + 1, i, none⟩ = false := Lib.frozen_of_heap zBr
          have zB4 : ((((wr.setCell ⟨w.heap.size + 1, 0, none⟩ (.int .i64 0)).setCell ⟨w.heap.size + 1, 1, none⟩ (.int .i64 0)).setCell ⟨w.heap.size + 1, 2, none⟩ (.string ⟨#[]⟩)).setCell ⟨w.heap.size + 1, 3, none⟩ (.slice none 0 0)).heap[w.heap.size + 1]? = some (.cells #[.int .i64 0, .int .i64 0, .string ⟨#[]⟩, .slice none 0 0] 41 (0, 0)) := (box_put (box_put (box_put (box_put zBr _) _) _) _)
          have hb4 := (((((hB2.trans (hbl.mono (by omega))).setCell (p := ⟨w.heap.size + 1, 0, none⟩) (Nat.le_succ _) (.int .i64 0)).setCell (p := ⟨w.heap.size + 1, 1, none⟩) (Nat.le_succ _) (.int .i64 0)).setCell (p := ⟨w.heap.size + 1, 2, none⟩) (Nat.le_succ _) (.string ⟨#[]⟩)).setCell (p := ⟨w.heap.size + 1, 3, none⟩) (Nat.le_succ _) (.slice none 0 0))
          go_wp2
          generalize World.setCell _ _ _ = w4 at zB4 hb4 ⊢
          have s0 : w4.cell? ⟨w.heap.size + 1, 0, none⟩ = some (.int .i64 0) := by rw [Lib.cell_of_heap zB4]; rfl
          have s1 : w4.cell? ⟨w.heap.size + 1, 1, none⟩ = some (.int .i64 0) := by rw [Lib.cell_of_heap zB4]; rfl
          have s2 : w4.cell? ⟨w.heap.size + 1, 2, none⟩ = some (.string ⟨#[]⟩) := by rw [Lib.cell_of_heap zB4]; rfl
          have s3 : w4.cell? ⟨w.heap.size + 1, 3, none⟩ = some (.slice none 0 0) := by rw [Lib.cell_of_heap zB4]; rfl
          refine bodyPost_ret (v := .tuple #[.agg #[.int .i64 0, .int .i64 0, .string ⟨#[]⟩, .slice none 0 0], .bool false]) (by simp [results, Tryz.results22, go_sem, s0, s1, s2, s3]) rfl ⟨⟨none, 0, by rw [hfd.out]; rfl, by rw [hfd.out]; exact ⟨fun _ => rfl, Nat.zero_le _, fun i hi => by simp [noV] at hi⟩⟩, hb4⟩
end Go.Proofs.YtcbnefeedoabeaaGreatDoor
/- Facts that the law of Find and Lookup uses: one context in a block of its own, sizes of what is found. -/
namespace Go.Proofs.YtcbnefeedoabeaaGreatDoor
open Go Go.RowKit

theorem ctxs_one {x : Ctx} {B : Nat} {q : Option Addr} {d : Nat} {w : World} {T : TypeId} (h : w.heap[B]? = some (.cells #[.string x.kind, .string x.key, .slice q (x.attrs.length : Nat) d] T (0, 0))) (hq : AttrsP (fun _ => True) q d x.attrs w) : CtxsP (fun _ => True) (some ⟨B, 0, none⟩) 1 [x] w := by
  refine ⟨fun e => by simp at e, by simp, fun i hi => ?_⟩
  have hi0 : i = 0 := by simp at hi; omega
  subst hi0
  have hB : B < w.heap.size := (Array.getElem?_eq_some_iff.1 h).1
  exact ⟨B, 0, rfl, trivial, hB, by rw [Lib.cell_of_heap h]; rfl, by rw [Lib.cell_of_heap h]; rfl, q, d, by rw [Lib.cell_of_heap h]; rfl, hq⟩
theorem foundC_all {kd : ByteArray} {l : List Ctx} {P : Ctx → Prop} (h : ∀ x ∈ l, P x) (h0 : P noC) : P (foundC kd l).1 := by
  unfold foundC
  cases findK kd l with
  | none => exact h0
  | some i =>
    by_cases hi : i < l.length
    · simp only [List.getD, List.getElem?_eq_getElem hi, Option.getD_some]
      exact h _ (List.getElem_mem hi)
    · simp only [List.getD, List.getElem?_eq_none (Nat.le_of_not_lt hi), Option.getD_none]
      exact h0
theorem lookIn_list {nm : ByteArray} {x : Ctx} {m : Nat} (h : ∀ a ∈ x.attrs, a.val.list.length ≤ m) : (lookIn nm x).1.list.length ≤ m := by
  unfold lookIn
  split
  · exact Nat.zero_le _
  · cases findA nm x.attrs with
    | none => exact Nat.zero_le _
    | some i =>
      by_cases hi : i < x.attrs.length
      · simp only [List.getD, List.getElem?_eq_getElem hi, Option.getD_some]
        exact h _ (List.getElem_mem hi)
      · simp only [List.getD, List.getElem?_eq_none (Nat.le_of_not_lt hi), Option.getD_none]
        exact Nat.zero_le _
theorem foundV_list {kd nm : ByteArray} {l : List Ctx} {m : Nat} (h : ∀ x ∈ l, ∀ a ∈ x.attrs, a.val.list.length ≤ m) : (foundV kd nm l).1.list.length ≤ m := by
  rw [foundV_of]
  split
  · exact lookIn_list (foundC_all (P := fun x => ∀ a ∈ x.attrs, a.val.list.length ≤ m) h (fun a ha => by simp [noC] at ha))
  · exact Nat.zero_le _
end Go.Proofs.YtcbnefeedoabeaaGreatDoor
