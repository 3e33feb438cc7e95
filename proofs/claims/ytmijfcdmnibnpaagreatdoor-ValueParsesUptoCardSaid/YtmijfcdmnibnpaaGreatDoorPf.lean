/- The draw's list of choices: what it holds, and its contracts. The draw's texts, versions and lists, and the contract of its Text. The draw's values: each is valid and of the kind that was asked. The draw's lists; a value of any kind. Contracts of package value's size of a quoted text, the kind of a source form, and a list in source form. Contract of package value's reading of a list in source form. Contracts of package value's reading of a source form, and of Parse. Contract of package value's Parse. -/
import Derived.Test.YtmijfcdmnibnpaaGreatDoorProg
import Derived.Test.YtmijfcdmnibnpaaGreatDoorPa
import Derived.BigRegion
import Derived.Deep.RegionWith
import Derived.Deep.DeepFit
import Derived.IntWalk
import Derived.Deep.DeepCutAuto
import Derived.Test.YtmijfcdmnibnpaaGreatDoorPb
import Derived.Test.YtmijfcdmnibnpaaGreatDoorPd
import Derived.Test.YtmijfcdmnibnpaaGreatDoorPe
import Derived.Test.YtmijfcdmnibnpaaGreatDoorPc
/- The draw's list of choices: what it holds, and its contracts. -/
namespace Go.Proofs.YtmijfcdmnibnpaaGreatDoor
open Go Go.RowKit

/-- Of what was there only block C may have turned. -/
structure Kept (C : Nat) (w w' : World) : Prop where
  os : w'.os = w.os
  tape : w'.tape = w.tape
  output : w'.output = w.output
  size : w.heap.size ≤ w'.heap.size
  block : ∀ k, k < w.heap.size → k ≠ C → w'.heap[k]? = w.heap[k]?
theorem Kept.refl (C : Nat) (w : World) : Kept C w w := ⟨rfl, rfl, rfl, Nat.le_refl _, fun _ _ _ => rfl⟩
theorem Kept.trans {C : Nat} {a b c : World} (h : Kept C a b) (k : Kept C b c) : Kept C a c :=
  ⟨k.os.trans h.os, k.tape.trans h.tape, k.output.trans h.output, Nat.le_trans h.size k.size, fun n hn hc => (k.block n (Nat.lt_of_lt_of_le hn h.size) hc).trans (h.block n hn hc)⟩
theorem Kept.of_below {C : Nat} {w w' : World} (h : Below w.heap.size w w') : Kept C w w' := ⟨h.os, h.tape, h.output, h.size, fun k hk _ => h.block k hk⟩
theorem Kept.below {C B : Nat} {w w' : World} (h : Kept C w w') (hC : B ≤ C) (hB : B ≤ w.heap.size) : Below B w w' :=
  ⟨h.os, h.tape, h.output, h.size, fun k hk => h.block k (Nat.lt_of_lt_of_le hk hB) (by omega)⟩
theorem Kept.drew {C : Nat} {w w' : World} (h : Kept C w w') : Kept C w w'.drew := ⟨h.os, h.tape, h.output, h.size, h.block⟩
theorem Kept.alloc {C : Nat} {w w' : World} (h : Kept C w w') (o : Obj) : Kept C w (w'.alloc o) := h.trans (Kept.of_below ((Below.refl _ w').alloc (Nat.le_refl _) o))
theorem Kept.setCell {C : Nat} {w w' : World} (h : Kept C w w') (i : Nat) (v : Value) : Kept C w (w'.setCell ⟨C, i, none⟩ v) :=
  ⟨h.os, h.tape, h.output, by simpa using h.size, fun k hk hc => by rw [Below.heap_setCell _ _ _ _ hc]; exact h.block k hk hc⟩
theorem Kept.cell {C : Nat} {w w' : World} (h : Kept C w w') {p : Addr} (hp : p.block < w.heap.size) (hc : p.block ≠ C) : w'.cell? p = w.cell? p := World.cell?_of_block (w := w) (h.block p.block hp hc)
/-- The choices lie in block C, at of them are used. -/
structure Codes (l : List UInt8) (a0 : Option Addr) (cap C at_ : Nat) (w : World) : Prop where
  here : w.heap[C]? = some (.cells #[.slice a0 (l.length : Nat) cap, .int .i64 (at_ : Int)] 49 (0, 0))
  bytes : ∀ i (h : i < l.length), ∃ (b off : Nat), a0 = some ⟨b, off, none⟩ ∧ b < w.heap.size ∧ b ≠ C ∧ w.cell? ⟨b, off + i, none⟩ = some (.int .u8 (l[i].toNat : Int))
  le : at_ ≤ l.length
theorem Codes.lt {l : List UInt8} {a0 : Option Addr} {cap C at_ : Nat} {w : World} (h : Codes l a0 cap C at_ w) : C < w.heap.size := (Array.getElem?_eq_some_iff.1 h.here).1
theorem Codes.below {l : List UInt8} {a0 : Option Addr} {cap C at_ : Nat} {w w' : World} (h : Codes l a0 cap C at_ w) (hb : Below w.heap.size w w') : Codes l a0 cap C at_ w' := by
  refine ⟨(hb.block C h.lt).trans h.here, fun i hi => ?_, h.le⟩
  obtain ⟨b, off, he, hlt, hc, hv⟩ := h.bytes i hi
  exact ⟨b, off, he, Nat.lt_of_lt_of_le hlt hb.size, hc, (hb.cell (p := ⟨b, off + i, none⟩) hlt).trans hv⟩
theorem Codes.put {l : List UInt8} {a0 : Option Addr} {cap C at_ : Nat} {w : World} (h : Codes l a0 cap C at_ w) (hlt : at_ < l.length) : Codes l a0 cap C (at_ + 1) (w.setCell ⟨C, 1, none⟩ (.int .i64 ((at_ : Int) + 1))) := by
  refine ⟨?_, fun i hi => ?_, hlt⟩
  · show (w.heap.modify C _)[C]? = _
    rw [Array.getElem?_modify, if_pos rfl, h.here]
    rfl
  · obtain ⟨b, off, he, hb, hc, hv⟩ := h.bytes i hi
    refine ⟨b, off, he, by simpa using hb, hc, ?_⟩
    rw [World.cell?_setCell_other w _ _ _ (fun e => hc (by injection e with e1 _; exact e1.symm))]
    exact hv
theorem left_any (l : List UInt8) (a0 : Option Addr) (cap C at_ : Nat) (w : World) (h : Codes l a0 cap C at_ w) :
    Calls Tryz.prog 29 #[.pointer (some ⟨C, 0, none⟩)] w fun e w' => e = .returned (.bool (decide (at_ < l.length))) ∧ w' = w.drew := by
  have c0 : w.cell? ⟨C, 0, none⟩ = some (.slice a0 (l.length : Nat) cap) := by rw [Lib.cell_of_heap h.here]; rfl
  have c1 : w.cell? ⟨C, 1, none⟩ = some (.int .i64 (at_ : Int)) := by rw [Lib.cell_of_heap h.here]; rfl
  have hd : decide ((at_ : Int) < (l.length : Int)) = decide (at_ < l.length) := by rw [Bool.eq_iff_iff]; simp
  go_enter Tryz.func29, Tryz.ntmps29
  go_upto_region 1 with (fail)
  go_region
  all_goals
    go_wp2
    go_ret
    exact ⟨rfl, rfl⟩
/-- The next choice from 0 to n - 1. -/
def nextN (l : List UInt8) (at_ n : Nat) : Nat := if at_ < l.length then (l.getD at_ 0).toNat % n else 0
theorem nextN_lt (l : List UInt8) (at_ n : Nat) (h : 0 < n) : nextN l at_ n < n := by
  unfold nextN
  split
  · exact Nat.mod_lt _ h
  · exact h
set_option maxHeartbeats 4000000 in
theorem next_any (l : List UInt8) (a0 : Option Addr) (cap C at_ n : Nat) (w : World) (hl : l.length ≤ 1000000) (h0 : 0 < n) (hn : n ≤ 256) (h : Codes l a0 cap C at_ w) :
    Calls Tryz.prog 14 #[.pointer (some ⟨C, 0, none⟩), .int .i64 (n : Int)] w fun e w' => e = .returned (.int .i64 (nextN l at_ n : Nat)) ∧ Kept C w w' ∧ ∃ at2, Codes l a0 cap C at2 w' := by
  have hle := h.le
  by_cases hlt : at_ < l.length
  · obtain ⟨b, off, rfl, hb, hc, hv⟩ := h.bytes at_ hlt
    have hL := left_any l _ cap C at_ w h
    rw [decide_eq_true hlt] at hL
    have hc0 : w.drew.cell? ⟨C, 0, none⟩ = some (.slice (some ⟨b, off, none⟩) (l.length : Nat) cap) := by show w.cell? _ = _; rw [Lib.cell_of_heap h.here]; rfl
    have hc1 : w.drew.cell? ⟨C, 1, none⟩ = some (.int .i64 (at_ : Int)) := by show w.cell? _ = _; rw [Lib.cell_of_heap h.here]; rfl
    have hf : ∀ i, w.drew.frozen? ⟨C, i, none⟩ = false := fun i => Lib.frozen_of_heap (w := w) h.here i
    have hdr : Codes l (some ⟨b, off, none⟩) cap C at_ w.drew := h.below ((Below.refl _ w).drew)
    have hp : Codes l (some ⟨b, off, none⟩) cap C (at_ + 1) (w.setCell ⟨C, 1, none⟩ (.int .i64 ((at_ : Int) + 1))).drew := hdr.put hlt
    have hv2 : (w.setCell ⟨C, 1, none⟩ (.int .i64 ((at_ : Int) + 1))).drew.cell? ⟨b, off + at_, none⟩ = some (.int .u8 (l[at_].toNat : Int)) := by
      obtain ⟨b', off', he, _, _, h5⟩ := hp.bytes at_ hlt
      cases he
      exact h5
    have hp0 : (w.setCell ⟨C, 1, none⟩ (.int .i64 ((at_ : Int) + 1))).drew.cell? ⟨C, 0, none⟩ = some (.slice (some ⟨b, off, none⟩) (l.length : Nat) cap) := by rw [Lib.cell_of_heap hp.here]; rfl
    have hp1 : (w.setCell ⟨C, 1, none⟩ (.int .i64 ((at_ : Int) + 1))).drew.cell? ⟨C, 1, none⟩ = some (.int .i64 ((at_ : Int) + 1)) := by rw [Lib.cell_of_heap hp.here]; rfl
    have hkept : Kept C w (w.setCell ⟨C, 1, none⟩ (.int .i64 ((at_ : Int) + 1))).drew := (Kept.refl C w).drew.setCell 1 _
    have hres : nextN l at_ n = l[at_].toNat % n := by unfold nextN; rw [if_pos hlt]; simp [List.getD, hlt]
    have hb8 := l[at_].toNat_lt
    rw [hres]
    replace hres := Lib.hid hres
    replace hL := Lib.hid hL
    have hlt' : (at_ : Int) < (l.length : Int) := by omega
    have hmod : ((l[at_].toNat : Int)).tmod (n : Int) = ((l[at_].toNat % n : Nat) : Int) := by rw [Int.tmod_eq_emod_of_nonneg (by omega), Int.natCast_emod]
    have hn0 : ¬ (n : Int) = 0 := by omega
    generalize l[at_].toNat = z at hv hv2 hb8 hmod ⊢
    clear hdr hv hb h
    go_enter Tryz.func14, Tryz.ntmps14
    go_upto_region 4 with (go_at_call 29; refine hL.out.mono ?_; rintro e w1 ⟨rfl, rfl⟩)
    generalize (w.setCell ⟨C, 1, none⟩ (.int .i64 ((at_ : Int) + 1))).drew = w2 at hp hp0 hp1 hv2 hkept ⊢
    clear hc0 hc1 hf
    go_region
    all_goals
      go_wp2
      go_ret
      exact ⟨rfl, hkept.drew, _, hp.below ((Below.refl _ w2).drew)⟩
  · have hL := left_any l _ cap C at_ w h
    rw [decide_eq_false hlt] at hL
    have hres : nextN l at_ n = 0 := by unfold nextN; rw [if_neg hlt]
    rw [hres]
    replace hL := Lib.hid hL
    go_enter Tryz.func14, Tryz.ntmps14
    go_wp2_with (go_at_call 29; refine hL.out.mono ?_; rintro e w1 ⟨rfl, rfl⟩)
    go_ret
    exact ⟨rfl, (Kept.refl C w).drew, _, h.below ((Below.refl _ w).drew)⟩
/-- A slice of bytes that came in. -/
def BytesOf (a0 : Option Addr) (l : List UInt8) (w : World) : Prop := ∀ i (h : i < l.length), ∃ (b off : Nat), a0 = some ⟨b, off, none⟩ ∧ b < w.heap.size ∧ w.cell? ⟨b, off + i, none⟩ = some (.int .u8 (l[i].toNat : Int))
theorem codes_new (l : List UInt8) (a0 : Option Addr) (cap n : Nat) (w : World) (hn : n ≤ l.length) (hB : BytesOf a0 l w) : Codes (l.take n) a0 cap w.heap.size 0 (w.alloc (.cells #[.slice a0 (n : Nat) cap, .int .i64 0] 49)) := by
  have hl : (l.take n).length = n := by rw [List.length_take]; omega
  refine ⟨?_, fun i hi => ?_, Nat.zero_le _⟩
  · rw [hl]
    exact heap_alloc_new w _
  · obtain ⟨b, off, he, hb, hv⟩ := hB i (by omega)
    refine ⟨b, off, he, by simp; omega, by omega, ?_⟩
    rw [((Below.refl _ w).alloc (Nat.le_refl _) (.cells #[.slice a0 (n : Nat) cap, .int .i64 0] 49)).cell (p := ⟨b, off + i, none⟩) hb, hv]
    simp
theorem new_any (l : List UInt8) (a0 : Option Addr) (cap n : Nat) (w : World) (hl : l.length ≤ 9223372036854775807) (hc : l.length ≤ cap) (hn : n ≤ 1000) (hB : BytesOf a0 l w) :
    Calls Tryz.prog 7 #[.slice a0 (l.length : Nat) cap, .int .i64 (n : Int)] w fun e w' => e = .returned (.pointer (some ⟨w.heap.size, 0, none⟩)) ∧ Codes (l.take n) a0 cap w.heap.size 0 w' ∧ Below w.heap.size w w' := by
  by_cases h : n < l.length
  · have hk := codes_new l a0 cap n w (by omega) hB
    have h' : (n : Int) < (l.length : Int) := by omega
    have hc2 : n ≤ cap := by omega
    have hc3 : (n : Int) ≤ (cap : Int) := by omega
    replace hk := Lib.hid hk
    obtain ⟨m, hm⟩ : ∃ m, l.length = m := ⟨_, rfl⟩
    rw [hm] at h' ⊢
    go_enter Tryz.func7, Tryz.ntmps7
    go_wp2
    go_ret
    exact ⟨rfl, hk.out, (Below.refl _ w).alloc (Nat.le_refl _) _⟩
  · have hk := codes_new l a0 cap l.length w (Nat.le_refl _) hB
    rw [List.take_of_length_le (Nat.le_refl _)] at hk
    rw [List.take_of_length_le (by omega)]
    have h' : ¬ (n : Int) < (l.length : Int) := by omega
    replace hk := Lib.hid hk
    go_enter Tryz.func7, Tryz.ntmps7
    go_wp2
    go_ret
    exact ⟨rfl, hk.out, (Below.refl _ w).alloc (Nat.le_refl _) _⟩
end Go.Proofs.YtmijfcdmnibnpaaGreatDoor
/- The draw's texts, versions and lists, and the contract of its Text. -/
namespace Go.Proofs.YtmijfcdmnibnpaaGreatDoor
open Go Go.RowKit

def drawTexts : List ByteArray := [⟨#[115, 101]⟩, ⟨#[100, 101]⟩, ⟨#[117, 115]⟩, ⟨#[112, 114, 111]⟩, ⟨#[102, 114, 101, 101]⟩, ⟨#[]⟩, ⟨#[97, 34, 98]⟩, ⟨#[99, 92]⟩, ⟨#[195, 169]⟩, ⟨#[112, 114, 111, 115, 101]⟩, ⟨#[120, 32, 121]⟩]
def drawVersions : List ByteArray := [⟨#[49, 46, 48, 46, 48]⟩, ⟨#[49, 46, 50, 46, 51]⟩, ⟨#[49, 46, 49, 48, 46, 48]⟩, ⟨#[50, 46, 48, 46, 49]⟩, ⟨#[48, 46, 48, 46, 48]⟩, ⟨#[57, 57, 57, 57, 57, 57, 46, 48, 46, 57, 57, 57, 57, 57, 57]⟩]
def drawLists : List (List ByteArray) := [[], [⟨#[112, 114, 111]⟩], [⟨#[100, 101]⟩, ⟨#[115, 101]⟩], [⟨#[]⟩, ⟨#[102, 114, 101, 101]⟩, ⟨#[117, 115]⟩], [⟨#[120, 32, 121]⟩]]
/-- What the draw's variables hold; C is the block of the choices. -/
structure DrawG (C : Nat) (w : World) : Prop where
  t : ∀ i (h : i < drawTexts.length), w.cell? ⟨2, i, none⟩ = some (.string drawTexts[i])
  v : ∀ i (h : i < drawVersions.length), w.cell? ⟨0, i, none⟩ = some (.string drawVersions[i])
  ls : ∀ i (h : i < drawLists.length), ∃ (a : Option Addr) (c : Nat), w.cell? ⟨1, i, none⟩ = some (.slice a (drawLists[i].length : Nat) c) ∧ (a = none → c = 0) ∧ drawLists[i].length ≤ c ∧
    ∀ j (hj : j < drawLists[i].length), ∃ (b off : Nat), a = some ⟨b, off, none⟩ ∧ b ≠ C ∧ b < w.heap.size ∧ w.cell? ⟨b, off + j, none⟩ = some (.string drawLists[i][j])
  nt : 2 ≠ C
  nv : 0 ≠ C
  nl : 1 ≠ C
theorem DrawG.kept {C : Nat} {w w' : World} (h : DrawG C w) (k : Kept C w w') : DrawG C w' := by
  refine ⟨fun i hi => ?_, fun i hi => ?_, fun i hi => ?_, h.nt, h.nv, h.nl⟩
  · have h1 := h.t i hi
    rw [k.cell (p := ⟨2, i, none⟩) (block_lt_of_cell h1) h.nt]
    exact h1
  · have h1 := h.v i hi
    rw [k.cell (p := ⟨0, i, none⟩) (block_lt_of_cell h1) h.nv]
    exact h1
  · obtain ⟨a, c, h1, h2, h3, h4⟩ := h.ls i hi
    refine ⟨a, c, ?_, h2, h3, fun j hj => ?_⟩
    · rw [k.cell (p := ⟨1, i, none⟩) (block_lt_of_cell h1) h.nl]
      exact h1
    · obtain ⟨b, off, e1, e2, e3, e4⟩ := h4 j hj
      exact ⟨b, off, e1, e2, Nat.lt_of_lt_of_le e3 k.size, by rw [k.cell (p := ⟨b, off + j, none⟩) e3 e2]; exact e4⟩
set_option maxHeartbeats 4000000 in
theorem text_any (l : List UInt8) (a0 : Option Addr) (cap C at_ : Nat) (w : World) (hl : l.length ≤ 1000000) (h : Codes l a0 cap C at_ w) (hG : DrawG C w) :
    Calls Tryz.prog 30 #[.pointer (some ⟨C, 0, none⟩)] w fun e w' => (∃ s ∈ drawTexts, e = .returned (.string s)) ∧ Kept C w w' ∧ ∃ at2, Codes l a0 cap C at2 w' := by
  have hn := next_any l a0 cap C at_ 11 w hl (by omega) (by omega) h
  have hlt := nextN_lt l at_ 11 (by omega)
  generalize nextN l at_ 11 = r at hn hlt
  have hr : r < drawTexts.length := hlt
  have hr' : (r : Int) < 11 := by omega
  obtain ⟨s, hs⟩ : ∃ s, drawTexts[r] = s := ⟨_, rfl⟩
  have hmem : s ∈ drawTexts := by rw [← hs]; exact List.getElem_mem hr
  replace hn := Lib.hid hn
  have ht := hG.t r hr
  rw [hs] at ht
  replace hs := Lib.hid hs
  replace hr := Lib.hid hr
  go_enter Tryz.func30, Tryz.ntmps30
  go_wp2_with (go_at_call 14; refine hn.out.mono ?_; rintro e w1 ⟨rfl, hk, at2, hc2⟩; have ht2 : w1.cell? ⟨2, r, none⟩ = some (.string s) := (by rw [hk.cell (p := ⟨2, r, none⟩) (block_lt_of_cell ht) hG.nt]; exact ht))
  go_ret
  exact ⟨⟨s, hmem, rfl⟩, hk, at2, hc2⟩
end Go.Proofs.YtmijfcdmnibnpaaGreatDoor
/- The draw's values: each is valid and of the kind that was asked. -/
namespace Go.Proofs.YtmijfcdmnibnpaaGreatDoor
open Go Go.RowKit

theorem Codes.other {l : List UInt8} {a0 : Option Addr} {cap C at_ at2 B : Nat} {w w1 : World} (h0 : Codes l a0 cap C at_ w) (h : Codes l a0 cap C at2 w1) (hB : w.heap.size ≤ B) (i : Nat) (v : Value) : Codes l a0 cap C at2 (w1.setCell ⟨B, i, none⟩ v) := by
  refine ⟨?_, fun j hj => ?_, h.le⟩
  · rw [Below.heap_setCell _ _ _ _ (by have := h0.lt; show C ≠ B; omega)]
    exact h.here
  · obtain ⟨b, off, he, hlt, hc, hv⟩ := h.bytes j hj
    obtain ⟨b', off', he', hlt', _, _⟩ := h0.bytes j hj
    rw [he] at he'
    cases he'
    refine ⟨b, off, he, by simpa using hlt, hc, ?_⟩
    rw [World.cell?_setCell_other w1 _ _ _ (fun e => by injection e with e1 _; omega)]
    exact hv
/-- The texts of a slice whose block is B or a later one. -/
def TextsFrom (B : Nat) (a0 : Option Addr) (l : List ByteArray) (w : World) : Prop := ∀ i (h : i < l.length), ∃ (b off : Nat), a0 = some ⟨b, off, none⟩ ∧ B ≤ b ∧ b < w.heap.size ∧ w.cell? ⟨b, off + i, none⟩ = some (.string l[i])
theorem TextsFrom.texts {B : Nat} {a0 : Option Addr} {l : List ByteArray} {w : World} (h : TextsFrom B a0 l w) : TextsAre a0 l w := fun i hi => by
  obtain ⟨b, off, e1, _, e3, e4⟩ := h i hi
  exact ⟨b, off, e1, e3, e4⟩
theorem TextsFrom.set {B B' : Nat} {a0 : Option Addr} {l : List ByteArray} {w : World} (h : TextsFrom B a0 l w) (hB : B' < B) (j : Nat) (v : Value) : TextsFrom B a0 l (w.setCell ⟨B', j, none⟩ v) := fun i hi => by
  obtain ⟨b, off, e1, e2, e3, e4⟩ := h i hi
  refine ⟨b, off, e1, e2, by simpa using e3, ?_⟩
  rw [World.cell?_setCell_other _ _ _ _ (fun e => by injection e with e5 _; omega)]
  exact e4
theorem TextsFrom.mono {B B' : Nat} {a0 : Option Addr} {l : List ByteArray} {w : World} (h : TextsFrom B a0 l w) (hB : B' ≤ B) : TextsFrom B' a0 l w := fun i hi => by
  obtain ⟨b, off, e1, e2, e3, e4⟩ := h i hi
  exact ⟨b, off, e1, Nat.le_trans hB e2, e3, e4⟩
/-- A drawn value. -/
structure Drawn (k : Int) (x : Val) : Prop where
  kind : x.kind = k
  ok : checkE x = 0
  text : x.text.size ≤ 100
  len : x.list.length ≤ 20
  each : ∀ s ∈ x.list, s.size ≤ 100
theorem texts_ok : drawTexts.all (fun s => validB s && decide (s.size ≤ 100)) = true := by decide +kernel
theorem versions_ok : drawVersions.all (fun s => decide (verOk s) && decide (s.size ≤ 100)) = true := by decide +kernel
theorem lists_ok : drawLists.all (fun l => decide (listE l = 0) && decide (l.length ≤ 20) && l.all fun s => decide (s.size ≤ 100)) = true := by decide +kernel
theorem drawn_bool (r : Int) (h : r = 0 ∨ r = 1) : Drawn 1 ⟨1, r, ⟨#[]⟩, []⟩ := by
  refine ⟨rfl, ?_, Nat.zero_le _, Nat.zero_le _, fun s hs => by simp at hs⟩
  rcases h with rfl | rfl <;> decide
theorem drawn_num (r : Int) (h0 : -1099511627776 ≤ r) (h1 : r ≤ 1099511627776) : Drawn 2 ⟨2, r, ⟨#[]⟩, []⟩ := by
  refine ⟨rfl, ?_, Nat.zero_le _, Nat.zero_le _, fun s hs => by simp at hs⟩
  unfold checkE
  rw [if_neg (by simp), if_neg (not_not_intro ⟨.inl (.inr rfl), .inr rfl, .inr rfl⟩), if_neg (by simp), if_pos rfl, if_neg (by simp only; omega)]
theorem drawn_text (s : ByteArray) (h : s ∈ drawTexts) : Drawn 3 ⟨3, 0, s, []⟩ := by
  have h1 := List.all_eq_true.1 texts_ok s h
  simp only [Bool.and_eq_true, decide_eq_true_eq] at h1
  refine ⟨rfl, ?_, h1.2, Nat.zero_le _, fun s hs => by simp at hs⟩
  unfold checkE
  rw [if_neg (by simp), if_neg (not_not_intro ⟨.inr rfl, .inl (.inl rfl), .inr rfl⟩), if_neg (by simp), if_neg (by simp), if_pos rfl, if_pos h1.1]
theorem drawn_version (s : ByteArray) (h : s ∈ drawVersions) : Drawn 4 ⟨4, 0, s, []⟩ := by
  have h1 := List.all_eq_true.1 versions_ok s h
  simp only [Bool.and_eq_true, decide_eq_true_eq] at h1
  refine ⟨rfl, ?_, h1.2, Nat.zero_le _, fun s hs => by simp at hs⟩
  unfold checkE
  rw [if_neg (by simp), if_neg (not_not_intro ⟨.inr rfl, .inl (.inr rfl), .inr rfl⟩), if_neg (by simp), if_neg (by simp), if_neg (by simp), if_pos rfl, if_pos h1.1]
theorem drawn_list (l : List ByteArray) (h : l ∈ drawLists) : Drawn 5 ⟨5, 0, ⟨#[]⟩, l⟩ := by
  have h1 := List.all_eq_true.1 lists_ok l h
  simp only [Bool.and_eq_true, decide_eq_true_eq, List.all_eq_true] at h1
  refine ⟨rfl, ?_, Nat.zero_le _, h1.1.2, fun s hs => by simpa using h1.2 s hs⟩
  unfold checkE
  rw [if_neg (by simp), if_neg (not_not_intro ⟨.inr rfl, .inr rfl, .inl rfl⟩), if_neg (by simp), if_neg (by simp), if_neg (by simp), if_neg (by simp)]
  exact h1.1.1
theorem Kept.other {C B : Nat} {w w' : World} (h : Kept C w w') (hB : w.heap.size ≤ B) (i : Nat) (v : Value) : Kept C w (w'.setCell ⟨B, i, none⟩ v) :=
  ⟨h.os, h.tape, h.output, by simpa using h.size, fun k hk hc => by rw [Below.heap_setCell _ _ _ _ (by show k ≠ B; omega)]; exact h.block k hk hc⟩
set_option maxHeartbeats 4000000 in
theorem value_bool (l : List UInt8) (a0 : Option Addr) (cap C at_ : Nat) (w : World) (hl : l.length ≤ 1000000) (h : Codes l a0 cap C at_ w) :
    Calls Tryz.prog 15 #[.pointer (some ⟨C, 0, none⟩), .int .i64 1] w (fun e w' => (∃ (x : Val) (a : Option Addr) (c : Nat), e = .returned (x.agg a c) ∧ Drawn 1 x ∧ TextsFrom w.heap.size a x.list w' ∧ (a = none → c = 0) ∧ x.list.length ≤ c) ∧ Kept C w w' ∧ ∃ at2, Codes l a0 cap C at2 w') := by
  have hc0 := h.below ((Below.refl _ w).alloc (Nat.le_refl _) (.cells #[.int .i64 0, .int .i64 0, .string ⟨#[]⟩, .slice none 0 0] 29))
  have hk0 : Kept C w (w.alloc (.cells #[.int .i64 0, .int .i64 0, .string ⟨#[]⟩, .slice none 0 0] 29)) := Kept.of_below ((Below.refl _ w).alloc (Nat.le_refl _) _)
  have hz : (w.alloc (.cells #[.int .i64 0, .int .i64 0, .string ⟨#[]⟩, .slice none 0 0] 29)).heap[w.heap.size]? = some (.cells #[.int .i64 0, .int .i64 0, .string ⟨#[]⟩, .slice none 0 0] 29 (0, 0)) := heap_alloc_new w _
  have hne : w.heap.size ≠ C := by have := h.lt; omega
  go_enter Tryz.func15, Tryz.ntmps15
  go_upto_region 1 with (fail)
  generalize w.alloc (.cells #[.int .i64 0, .int .i64 0, .string ⟨#[]⟩, .slice none 0 0] 29) = w0 at hc0 hk0 hz ⊢
  have hzl : w.heap.size < w0.heap.size := (Array.getElem?_eq_some_iff.1 hz).1
  have hn := Lib.hid (next_any l a0 cap C at_ 2 w0 hl (by omega) (by omega) hc0)
  have hr := nextN_lt l at_ 2 (by omega)
  generalize nextN l at_ 2 = r at hn hr
  go_wp2_with (go_at_call 14; refine hn.out.mono ?_; rintro e w1 ⟨rfl, hk1, at2, hc1⟩; have hz1 := (hk1.block w.heap.size hzl hne).trans hz; have z0 : w1.cell? ⟨w.heap.size, 0, none⟩ = some (.int .i64 0) := (by rw [Lib.cell_of_heap hz1]; rfl); have z1 : w1.cell? ⟨w.heap.size, 1, none⟩ = some (.int .i64 0) := (by rw [Lib.cell_of_heap hz1]; rfl); have z2 : w1.cell? ⟨w.heap.size, 2, none⟩ = some (.string ⟨#[]⟩) := (by rw [Lib.cell_of_heap hz1]; rfl); have z3 : w1.cell? ⟨w.heap.size, 3, none⟩ = some (.slice none 0 0) := (by rw [Lib.cell_of_heap hz1]; rfl); have zf : ∀ i, w1.frozen? ⟨w.heap.size, i, none⟩ = false := Lib.frozen_of_heap hz1)
  refine bodyPost_ret (v := .agg #[.int .i64 1, .int .i64 (r : Int), .string ⟨#[]⟩, .slice none 0 0]) (by simp [results, Tryz.results15, go_sem, z0, z1, z2, z3]) rfl ⟨⟨⟨1, r, ⟨#[]⟩, []⟩, none, 0, rfl, drawn_bool _ (by omega), fun i hi => by simp at hi, fun _ => rfl, by simp⟩, ?_, at2, ?_⟩
  · exact ((((hk0.trans hk1).other (Nat.le_refl _) 0 _).other (Nat.le_refl _) 1 _).other (Nat.le_refl _) 2 _).other (Nat.le_refl _) 3 _
  · exact h.other (h.other (h.other (h.other hc1 (Nat.le_refl _) 0 _) (Nat.le_refl _) 1 _) (Nat.le_refl _) 2 _) (Nat.le_refl _) 3 _
set_option maxHeartbeats 4000000 in
theorem value_text (l : List UInt8) (a0 : Option Addr) (cap C at_ : Nat) (w : World) (hl : l.length ≤ 1000000) (h : Codes l a0 cap C at_ w) (hG : DrawG C w) :
    Calls Tryz.prog 15 #[.pointer (some ⟨C, 0, none⟩), .int .i64 3] w (fun e w' => (∃ (x : Val) (a : Option Addr) (c : Nat), e = .returned (x.agg a c) ∧ Drawn 3 x ∧ TextsFrom w.heap.size a x.list w' ∧ (a = none → c = 0) ∧ x.list.length ≤ c) ∧ Kept C w w' ∧ ∃ at2, Codes l a0 cap C at2 w') := by
  have hc0 := h.below ((Below.refl _ w).alloc (Nat.le_refl _) (.cells #[.int .i64 0, .int .i64 0, .string ⟨#[]⟩, .slice none 0 0] 29))
  have hk0 : Kept C w (w.alloc (.cells #[.int .i64 0, .int .i64 0, .string ⟨#[]⟩, .slice none 0 0] 29)) := Kept.of_below ((Below.refl _ w).alloc (Nat.le_refl _) _)
  have hz : (w.alloc (.cells #[.int .i64 0, .int .i64 0, .string ⟨#[]⟩, .slice none 0 0] 29)).heap[w.heap.size]? = some (.cells #[.int .i64 0, .int .i64 0, .string ⟨#[]⟩, .slice none 0 0] 29 (0, 0)) := heap_alloc_new w _
  have hne : w.heap.size ≠ C := by have := h.lt; omega
  go_enter Tryz.func15, Tryz.ntmps15
  go_upto_region 1 with (fail)
  generalize w.alloc (.cells #[.int .i64 0, .int .i64 0, .string ⟨#[]⟩, .slice none 0 0] 29) = w0 at hc0 hk0 hz ⊢
  have hzl : w.heap.size < w0.heap.size := (Array.getElem?_eq_some_iff.1 hz).1
  have hn := Lib.hid (text_any l a0 cap C at_ w0 hl hc0 (hG.kept hk0))
  go_wp2_with (go_at_call 30; refine hn.out.mono ?_; rintro e w1 ⟨⟨s, hs, rfl⟩, hk1, at2, hc1⟩; replace hs := Lib.hid hs; have hz1 := (hk1.block w.heap.size hzl hne).trans hz; have z0 : w1.cell? ⟨w.heap.size, 0, none⟩ = some (.int .i64 0) := (by rw [Lib.cell_of_heap hz1]; rfl); have z1 : w1.cell? ⟨w.heap.size, 1, none⟩ = some (.int .i64 0) := (by rw [Lib.cell_of_heap hz1]; rfl); have z2 : w1.cell? ⟨w.heap.size, 2, none⟩ = some (.string ⟨#[]⟩) := (by rw [Lib.cell_of_heap hz1]; rfl); have z3 : w1.cell? ⟨w.heap.size, 3, none⟩ = some (.slice none 0 0) := (by rw [Lib.cell_of_heap hz1]; rfl); have zf : ∀ i, w1.frozen? ⟨w.heap.size, i, none⟩ = false := Lib.frozen_of_heap hz1)
  refine bodyPost_ret (v := .agg #[.int .i64 3, .int .i64 0, .string s, .slice none 0 0]) (by simp [results, Tryz.results15, go_sem, z0, z1, z2, z3]) rfl ⟨⟨⟨3, 0, s, []⟩, none, 0, rfl, drawn_text _ hs.out, fun i hi => by simp at hi, fun _ => rfl, by simp⟩, ?_, at2, ?_⟩
  · exact ((((hk0.trans hk1).other (Nat.le_refl _) 0 _).other (Nat.le_refl _) 1 _).other (Nat.le_refl _) 2 _).other (Nat.le_refl _) 3 _
  · exact h.other (h.other (h.other (h.other hc1 (Nat.le_refl _) 0 _) (Nat.le_refl _) 1 _) (Nat.le_refl _) 2 _) (Nat.le_refl _) 3 _
set_option maxHeartbeats 4000000 in
theorem value_version (l : List UInt8) (a0 : Option Addr) (cap C at_ : Nat) (w : World) (hl : l.length ≤ 1000000) (h : Codes l a0 cap C at_ w) (hG : DrawG C w) :
    Calls Tryz.prog 15 #[.pointer (some ⟨C, 0, none⟩), .int .i64 4] w (fun e w' => (∃ (x : Val) (a : Option Addr) (c : Nat), e = .returned (x.agg a c) ∧ Drawn 4 x ∧ TextsFrom w.heap.size a x.list w' ∧ (a = none → c = 0) ∧ x.list.length ≤ c) ∧ Kept C w w' ∧ ∃ at2, Codes l a0 cap C at2 w') := by
  have hc0 := h.below ((Below.refl _ w).alloc (Nat.le_refl _) (.cells #[.int .i64 0, .int .i64 0, .string ⟨#[]⟩, .slice none 0 0] 29))
  have hk0 : Kept C w (w.alloc (.cells #[.int .i64 0, .int .i64 0, .string ⟨#[]⟩, .slice none 0 0] 29)) := Kept.of_below ((Below.refl _ w).alloc (Nat.le_refl _) _)
  have hz : (w.alloc (.cells #[.int .i64 0, .int .i64 0, .string ⟨#[]⟩, .slice none 0 0] 29)).heap[w.heap.size]? = some (.cells #[.int .i64 0, .int .i64 0, .string ⟨#[]⟩, .slice none 0 0] 29 (0, 0)) := heap_alloc_new w _
  have hne : w.heap.size ≠ C := by have := h.lt; omega
  go_enter Tryz.func15, Tryz.ntmps15
  go_upto_region 1 with (fail)
  generalize w.alloc (.cells #[.int .i64 0, .int .i64 0, .string ⟨#[]⟩, .slice none 0 0] 29) = w0 at hc0 hk0 hz ⊢
  have hzl : w.heap.size < w0.heap.size := (Array.getElem?_eq_some_iff.1 hz).1
  have hn := Lib.hid (next_any l a0 cap C at_ 6 w0 hl (by omega) (by omega) hc0)
  have hr := nextN_lt l at_ 6 (by omega)
  generalize nextN l at_ 6 = r at hn hr
  have hr2 : r < drawVersions.length := hr
  have hr' : (r : Int) < 6 := by omega
  obtain ⟨s, hs⟩ : ∃ s, drawVersions[r] = s := ⟨_, rfl⟩
  have hmem : s ∈ drawVersions := by rw [← hs]; exact List.getElem_mem hr2
  have ht := (hG.kept hk0).v r hr2
  rw [hs] at ht
  replace hs := Lib.hid hs
  replace hr2 := Lib.hid hr2
  replace hmem := Lib.hid hmem
  go_wp2_with (go_at_call 14; refine hn.out.mono ?_; rintro e w1 ⟨rfl, hk1, at2, hc1⟩; have ht2 : w1.cell? ⟨0, r, none⟩ = some (.string s) := (by rw [hk1.cell (p := ⟨0, r, none⟩) (block_lt_of_cell ht) hG.nv]; exact ht); have hz1 := (hk1.block w.heap.size hzl hne).trans hz; have z0 : w1.cell? ⟨w.heap.size, 0, none⟩ = some (.int .i64 0) := (by rw [Lib.cell_of_heap hz1]; rfl); have z1 : w1.cell? ⟨w.heap.size, 1, none⟩ = some (.int .i64 0) := (by rw [Lib.cell_of_heap hz1]; rfl); have z2 : w1.cell? ⟨w.heap.size, 2, none⟩ = some (.string ⟨#[]⟩) := (by rw [Lib.cell_of_heap hz1]; rfl); have z3 : w1.cell? ⟨w.heap.size, 3, none⟩ = some (.slice none 0 0) := (by rw [Lib.cell_of_heap hz1]; rfl); have zf : ∀ i, w1.frozen? ⟨w.heap.size, i, none⟩ = false := Lib.frozen_of_heap hz1)
  refine bodyPost_ret (v := .agg #[.int .i64 4, .int .i64 0, .string s, .slice none 0 0]) (by simp [results, Tryz.results15, go_sem, z0, z1, z2, z3]) rfl ⟨⟨⟨4, 0, s, []⟩, none, 0, rfl, drawn_version _ hmem.out, fun i hi => by simp at hi, fun _ => rfl, by simp⟩, ?_, at2, ?_⟩
  · exact ((((hk0.trans hk1).other (Nat.le_refl _) 0 _).other (Nat.le_refl _) 1 _).other (Nat.le_refl _) 2 _).other (Nat.le_refl _) 3 _
  · exact h.other (h.other (h.other (h.other hc1 (Nat.le_refl _) 0 _) (Nat.le_refl _) 1 _) (Nat.le_refl _) 2 _) (Nat.le_refl _) 3 _
def drawNums : List Int := [0, 1, 17, 18, 19, (-5), 64, 1099511627776, (-1099511627776)]
theorem nums_ok : drawNums.all (fun r => decide (-1099511627776 ≤ r) && decide (r ≤ 1099511627776)) = true := by decide
set_option maxHeartbeats 4000000 in
theorem value_num (l : List UInt8) (a0 : Option Addr) (cap C at_ : Nat) (w : World) (hl : l.length ≤ 1000000) (h : Codes l a0 cap C at_ w) :
    Calls Tryz.prog 15 #[.pointer (some ⟨C, 0, none⟩), .int .i64 2] w (fun e w' => (∃ (x : Val) (a : Option Addr) (c : Nat), e = .returned (x.agg a c) ∧ Drawn 2 x ∧ TextsFrom w.heap.size a x.list w' ∧ (a = none → c = 0) ∧ x.list.length ≤ c) ∧ Kept C w w' ∧ ∃ at2, Codes l a0 cap C at2 w') := by
  have hc0 := h.below ((Below.refl _ w).alloc (Nat.le_refl _) (.cells #[.int .i64 0, .int .i64 0, .string ⟨#[]⟩, .slice none 0 0] 29))
  have hk0 : Kept C w (w.alloc (.cells #[.int .i64 0, .int .i64 0, .string ⟨#[]⟩, .slice none 0 0] 29)) := Kept.of_below ((Below.refl _ w).alloc (Nat.le_refl _) _)
  have hz : (w.alloc (.cells #[.int .i64 0, .int .i64 0, .string ⟨#[]⟩, .slice none 0 0] 29)).heap[w.heap.size]? = some (.cells #[.int .i64 0, .int .i64 0, .string ⟨#[]⟩, .slice none 0 0] 29 (0, 0)) := heap_alloc_new w _
  have hne : w.heap.size ≠ C := by have := h.lt; omega
  go_enter Tryz.func15, Tryz.ntmps15
  go_upto_region 1 with (fail)
  generalize w.alloc (.cells #[.int .i64 0, .int .i64 0, .string ⟨#[]⟩, .slice none 0 0] 29) = w0 at hc0 hk0 hz ⊢
  have hzl : w.heap.size < w0.heap.size := (Array.getElem?_eq_some_iff.1 hz).1
  go_upto_region 6 with (fail)
  have hb9 := (Below.refl w0.heap.size w0).alloc (Nat.le_refl _) (.cells #[.int .i64 0, .int .i64 1, .int .i64 17, .int .i64 18, .int .i64 19, .int .i64 (-5), .int .i64 64, .int .i64 1099511627776, .int .i64 (-1099511627776)] 3)
  have hrow : ∀ i (hi : i < drawNums.length), (w0.alloc (.cells #[.int .i64 0, .int .i64 1, .int .i64 17, .int .i64 18, .int .i64 19, .int .i64 (-5), .int .i64 64, .int .i64 1099511627776, .int .i64 (-1099511627776)] 3)).cell? ⟨w0.heap.size, i, none⟩ = some (.int .i64 drawNums[i]) := by
    intro i hi
    rw [Lib.cell_of_heap (heap_alloc_new w0 _)]
    have hi9 : i < 9 := hi
    match i, hi9 with
    | 0, _ => rfl
    | 1, _ => rfl
    | 2, _ => rfl
    | 3, _ => rfl
    | 4, _ => rfl
    | 5, _ => rfl
    | 6, _ => rfl
    | 7, _ => rfl
    | 8, _ => rfl
    | i + 9, h => omega
  have hz := (hb9.block _ hzl).trans hz
  have hzl : w.heap.size < (w0.alloc (.cells #[.int .i64 0, .int .i64 1, .int .i64 17, .int .i64 18, .int .i64 19, .int .i64 (-5), .int .i64 64, .int .i64 1099511627776, .int .i64 (-1099511627776)] 3)).heap.size := by simp; omega
  have hc0 := hc0.below hb9
  have hk0 := hk0.trans (Kept.of_below (C := C) hb9)
  have hgC : w0.heap.size ≠ C := by have h1 := h.lt; have h2 := hk0.size; simp at hzl; omega
  have hg9 : w0.heap.size < (w0.alloc (.cells #[.int .i64 0, .int .i64 1, .int .i64 17, .int .i64 18, .int .i64 19, .int .i64 (-5), .int .i64 64, .int .i64 1099511627776, .int .i64 (-1099511627776)] 3)).heap.size := by simp
  generalize w0.alloc (.cells #[.int .i64 0, .int .i64 1, .int .i64 17, .int .i64 18, .int .i64 19, .int .i64 (-5), .int .i64 64, .int .i64 1099511627776, .int .i64 (-1099511627776)] 3) = w5 at hz hzl hc0 hk0 hrow hg9 ⊢
  generalize w0.heap.size = g at hrow hg9 hgC ⊢
  have hn := Lib.hid (next_any l a0 cap C at_ 9 w5 hl (by omega) (by omega) hc0)
  have hr := nextN_lt l at_ 9 (by omega)
  generalize nextN l at_ 9 = r at hn hr
  have hr2 : r < drawNums.length := hr
  have hr' : (r : Int) < 9 := by omega
  obtain ⟨z, hs⟩ : ∃ z, drawNums[r] = z := ⟨_, rfl⟩
  have hin := List.all_eq_true.1 nums_ok z (by rw [← hs]; exact List.getElem_mem hr2)
  simp only [Bool.and_eq_true, decide_eq_true_eq] at hin
  have ht := hrow r hr2
  rw [hs] at ht
  replace hs := Lib.hid hs
  replace hr2 := Lib.hid hr2
  replace hin := Lib.hid hin
  clear hrow hb9
  go_wp2_with (go_at_call 14; refine hn.out.mono ?_; rintro e w1 ⟨rfl, hk1, at2, hc1⟩; have ht2 : w1.cell? ⟨g, r, none⟩ = some (.int .i64 z) := (by rw [hk1.cell (p := ⟨g, r, none⟩) hg9 hgC]; exact ht); have hz1 := (hk1.block w.heap.size hzl hne).trans hz; have z0 : w1.cell? ⟨w.heap.size, 0, none⟩ = some (.int .i64 0) := (by rw [Lib.cell_of_heap hz1]; rfl); have z1 : w1.cell? ⟨w.heap.size, 1, none⟩ = some (.int .i64 0) := (by rw [Lib.cell_of_heap hz1]; rfl); have z2 : w1.cell? ⟨w.heap.size, 2, none⟩ = some (.string ⟨#[]⟩) := (by rw [Lib.cell_of_heap hz1]; rfl); have z3 : w1.cell? ⟨w.heap.size, 3, none⟩ = some (.slice none 0 0) := (by rw [Lib.cell_of_heap hz1]; rfl); have zf : ∀ i, w1.frozen? ⟨w.heap.size, i, none⟩ = false := Lib.frozen_of_heap hz1)
  refine bodyPost_ret (v := .agg #[.int .i64 2, .int .i64 z, .string ⟨#[]⟩, .slice none 0 0]) (by simp [results, Tryz.results15, go_sem, z0, z1, z2, z3]) rfl ⟨⟨⟨2, z, ⟨#[]⟩, []⟩, none, 0, rfl, drawn_num _ hin.out.1 hin.out.2, fun i hi => by simp at hi, fun _ => rfl, by simp⟩, ?_, at2, ?_⟩
  · exact ((((hk0.trans hk1).other (Nat.le_refl _) 0 _).other (Nat.le_refl _) 1 _).other (Nat.le_refl _) 2 _).other (Nat.le_refl _) 3 _
  · exact h.other (h.other (h.other (h.other hc1 (Nat.le_refl _) 0 _) (Nat.le_refl _) 1 _) (Nat.le_refl _) 2 _) (Nat.le_refl _) 3 _
end Go.Proofs.YtmijfcdmnibnpaaGreatDoor
/- The draw's lists; a value of any kind. -/
namespace Go.Proofs.YtmijfcdmnibnpaaGreatDoor
open Go Go.RowKit

set_option maxHeartbeats 4000000 in
theorem value_list (l : List UInt8) (a0 : Option Addr) (cap C at_ : Nat) (w : World) (hl : l.length ≤ 1000000) (h : Codes l a0 cap C at_ w) (hG : DrawG C w) :
    Calls Tryz.prog 15 #[.pointer (some ⟨C, 0, none⟩), .int .i64 5] w (fun e w' => (∃ (x : Val) (a : Option Addr) (c : Nat), e = .returned (x.agg a c) ∧ Drawn 5 x ∧ TextsFrom w.heap.size a x.list w' ∧ (a = none → c = 0) ∧ x.list.length ≤ c) ∧ Kept C w w' ∧ ∃ at2, Codes l a0 cap C at2 w') := by
  have hc0 := h.below ((Below.refl _ w).alloc (Nat.le_refl _) (.cells #[.int .i64 0, .int .i64 0, .string ⟨#[]⟩, .slice none 0 0] 29))
  have hk0 : Kept C w (w.alloc (.cells #[.int .i64 0, .int .i64 0, .string ⟨#[]⟩, .slice none 0 0] 29)) := Kept.of_below ((Below.refl _ w).alloc (Nat.le_refl _) _)
  have hz : (w.alloc (.cells #[.int .i64 0, .int .i64 0, .string ⟨#[]⟩, .slice none 0 0] 29)).heap[w.heap.size]? = some (.cells #[.int .i64 0, .int .i64 0, .string ⟨#[]⟩, .slice none 0 0] 29 (0, 0)) := heap_alloc_new w _
  have hne : w.heap.size ≠ C := by have := h.lt; omega
  go_enter Tryz.func15, Tryz.ntmps15
  go_upto_region 1 with (fail)
  generalize w.alloc (.cells #[.int .i64 0, .int .i64 0, .string ⟨#[]⟩, .slice none 0 0] 29) = w0 at hc0 hk0 hz ⊢
  have hzl : w.heap.size < w0.heap.size := (Array.getElem?_eq_some_iff.1 hz).1
  have hn := Lib.hid (next_any l a0 cap C at_ 5 w0 hl (by omega) (by omega) hc0)
  have hr := nextN_lt l at_ 5 (by omega)
  generalize nextN l at_ 5 = r at hn hr
  have hr2 : r < drawLists.length := hr
  have hr' : (r : Int) < 5 := by omega
  obtain ⟨L, hs⟩ : ∃ L, drawLists[r] = L := ⟨_, rfl⟩
  have hmem : L ∈ drawLists := by rw [← hs]; exact List.getElem_mem hr2
  obtain ⟨aL, cL, ht, hnL, hcL, htx⟩ := (hG.kept hk0).ls r hr2
  rw [hs] at ht hcL htx
  have hL20 := (drawn_list L hmem).len
  simp only at hL20
  replace hs := Lib.hid hs
  replace hr2 := Lib.hid hr2
  replace hmem := Lib.hid hmem
  go_wp2_with (first
    | (go_at_call 14; refine hn.out.mono ?_; rintro e w1 ⟨rfl, hk1, at2, hc1⟩; have ht2 : w1.cell? ⟨1, r, none⟩ = some (.slice aL (L.length : Nat) cL) := (by rw [hk1.cell (p := ⟨1, r, none⟩) (block_lt_of_cell ht) hG.nl]; exact ht); have htx2 : TextsAre aL L w1 := (fun j hj => (by obtain ⟨b, off, e1, e2, e3, e4⟩ := htx j hj; exact ⟨b, off, e1, Nat.lt_of_lt_of_le e3 hk1.size, by rw [hk1.cell (p := ⟨b, off + j, none⟩) e3 e2]; exact e4⟩)))
    | (at_builtin; refine wpList_ownT rfl _ _ rfl L aL cL (ownT_nil w1.heap.size w1) rfl rfl hnL htx2 (by simp; omega) (Nat.le_refl _) ?_; intro v5 w5 hown5 hb5; rw [List.nil_append] at hown5; obtain ⟨a5, c5, rfl, hn5, hc5, ht5⟩ := hown5.texts; have hk5 : Kept C w0 w5 := hk1.trans (Kept.of_below hb5); have hz1 := (hk5.block w.heap.size hzl hne).trans hz; have z0 : w5.cell? ⟨w.heap.size, 0, none⟩ = some (.int .i64 0) := (by rw [Lib.cell_of_heap hz1]; rfl); have z1 : w5.cell? ⟨w.heap.size, 1, none⟩ = some (.int .i64 0) := (by rw [Lib.cell_of_heap hz1]; rfl); have z2 : w5.cell? ⟨w.heap.size, 2, none⟩ = some (.string ⟨#[]⟩) := (by rw [Lib.cell_of_heap hz1]; rfl); have z3 : w5.cell? ⟨w.heap.size, 3, none⟩ = some (.slice none 0 0) := (by rw [Lib.cell_of_heap hz1]; rfl); have zf : ∀ i, w5.frozen? ⟨w.heap.size, i, none⟩ = false := Lib.frozen_of_heap hz1))
  have hc5' := hc1.below hb5
  have hzl1 := Nat.lt_of_lt_of_le hzl hk1.size
  refine bodyPost_ret (v := .agg #[.int .i64 5, .int .i64 0, .string ⟨#[]⟩, .slice a5 L.length c5]) (by simp [results, Tryz.results15, go_sem, z0, z1, z2, z3]) rfl ⟨⟨⟨5, 0, ⟨#[]⟩, L⟩, a5, c5, rfl, drawn_list _ hmem.out, fun i hi => ?_, hn5, hc5⟩, ?_, at2, ?_⟩
  · have ht6 : TextsFrom w1.heap.size a5 L w5 := ht5
    exact ((((ht6.set hzl1 0 _).set hzl1 1 _).set hzl1 2 _).set hzl1 3 _).mono (Nat.le_of_lt hzl1) i hi
  · exact ((((hk0.trans hk5).other (Nat.le_refl _) 0 _).other (Nat.le_refl _) 1 _).other (Nat.le_refl _) 2 _).other (Nat.le_refl _) 3 _
  · exact h.other (h.other (h.other (h.other hc5' (Nat.le_refl _) 0 _) (Nat.le_refl _) 1 _) (Nat.le_refl _) 2 _) (Nat.le_refl _) 3 _
/-- A value of the kind that is asked. -/
theorem value_any (k : Int) (hk : 1 ≤ k ∧ k ≤ 5) (l : List UInt8) (a0 : Option Addr) (cap C at_ : Nat) (w : World) (hl : l.length ≤ 1000000) (h : Codes l a0 cap C at_ w) (hG : DrawG C w) :
    Calls Tryz.prog 15 #[.pointer (some ⟨C, 0, none⟩), .int .i64 k] w (fun e w' => (∃ (x : Val) (a : Option Addr) (c : Nat), e = .returned (x.agg a c) ∧ Drawn k x ∧ TextsFrom w.heap.size a x.list w' ∧ (a = none → c = 0) ∧ x.list.length ≤ c) ∧ Kept C w w' ∧ ∃ at2, Codes l a0 cap C at2 w') := by
  have hc : k = 1 ∨ k = 2 ∨ k = 3 ∨ k = 4 ∨ k = 5 := by omega
  rcases hc with rfl | rfl | rfl | rfl | rfl
  · exact value_bool l a0 cap C at_ w hl h
  · exact value_num l a0 cap C at_ w hl h
  · exact value_text l a0 cap C at_ w hl h hG
  · exact value_version l a0 cap C at_ w hl h hG
  · exact value_list l a0 cap C at_ w hl h hG
set_option maxHeartbeats 4000000 in
/-- A value of any kind. -/
theorem any_any (l : List UInt8) (a0 : Option Addr) (cap C at_ : Nat) (w : World) (hl : l.length ≤ 1000000) (h : Codes l a0 cap C at_ w) (hG : DrawG C w) :
    Calls Tryz.prog 8 #[.pointer (some ⟨C, 0, none⟩)] w (fun e w' => (∃ (x : Val) (a : Option Addr) (c : Nat), e = .returned (x.agg a c) ∧ (∃ k, (1 ≤ k ∧ k ≤ 5) ∧ Drawn k x) ∧ TextsFrom w.heap.size a x.list w' ∧ (a = none → c = 0) ∧ x.list.length ≤ c) ∧ Kept C w w' ∧ ∃ at2, Codes l a0 cap C at2 w') := by
  have hc0 := h.below ((Below.refl _ w).alloc (Nat.le_refl _) (.cells #[.int .i64 0, .int .i64 0, .string ⟨#[]⟩, .slice none 0 0] 29))
  have hk0 : Kept C w (w.alloc (.cells #[.int .i64 0, .int .i64 0, .string ⟨#[]⟩, .slice none 0 0] 29)) := Kept.of_below ((Below.refl _ w).alloc (Nat.le_refl _) _)
  have hz : (w.alloc (.cells #[.int .i64 0, .int .i64 0, .string ⟨#[]⟩, .slice none 0 0] 29)).heap[w.heap.size]? = some (.cells #[.int .i64 0, .int .i64 0, .string ⟨#[]⟩, .slice none 0 0] 29 (0, 0)) := heap_alloc_new w _
  have hne : w.heap.size ≠ C := by have := h.lt; omega
  go_enter Tryz.func8, Tryz.ntmps8
  go_upto_region 1 with (fail)
  generalize w.alloc (.cells #[.int .i64 0, .int .i64 0, .string ⟨#[]⟩, .slice none 0 0] 29) = w0 at hc0 hk0 hz ⊢
  have hzl : w.heap.size < w0.heap.size := (Array.getElem?_eq_some_iff.1 hz).1
  have hn := Lib.hid (next_any l a0 cap C at_ 5 w0 hl (by omega) (by omega) hc0)
  have hr := nextN_lt l at_ 5 (by omega)
  generalize nextN l at_ 5 = r at hn hr
  have hr' : (r : Int) < 5 := by omega
  have hG0 := hG.kept hk0
  go_wp2_with (first
    | (go_at_call 14; refine hn.out.mono ?_; rintro e w1 ⟨rfl, hk1, at1, hc1⟩; have hv := Lib.hid (value_any (1 + (r : Int)) (by omega) l a0 cap C at1 w1 hl hc1 (hG0.kept hk1)))
    | (go_at_call 15; refine hv.out.mono ?_; rintro e w5 ⟨⟨⟨k, n, t, L⟩, a5, c5, rfl, hd, ht5, hn5, hc5⟩, hk2, at2, hcd2⟩; have hk5 := hk1.trans hk2; have hz1 := (hk5.block w.heap.size hzl hne).trans hz; have z0 : w5.cell? ⟨w.heap.size, 0, none⟩ = some (.int .i64 0) := (by rw [Lib.cell_of_heap hz1]; rfl); have z1 : w5.cell? ⟨w.heap.size, 1, none⟩ = some (.int .i64 0) := (by rw [Lib.cell_of_heap hz1]; rfl); have z2 : w5.cell? ⟨w.heap.size, 2, none⟩ = some (.string ⟨#[]⟩) := (by rw [Lib.cell_of_heap hz1]; rfl); have z3 : w5.cell? ⟨w.heap.size, 3, none⟩ = some (.slice none 0 0) := (by rw [Lib.cell_of_heap hz1]; rfl); have zf : ∀ i, w5.frozen? ⟨w.heap.size, i, none⟩ = false := Lib.frozen_of_heap hz1; unfold Val.agg))
  have hzl1 := Nat.lt_of_lt_of_le hzl hk1.size
  refine bodyPost_ret (v := .agg #[.int .i64 k, .int .i64 n, .string t, .slice a5 L.length c5]) (by simp [results, Tryz.results8, go_sem, z0, z1, z2, z3]) rfl ⟨⟨⟨k, n, t, L⟩, a5, c5, rfl, ⟨_, by omega, hd⟩, ?_, hn5, hc5⟩, ?_, at2, ?_⟩
  · exact ((((ht5.set hzl1 0 _).set hzl1 1 _).set hzl1 2 _).set hzl1 3 _).mono (Nat.le_of_lt hzl1)
  · exact ((((hk0.trans hk5).other (Nat.le_refl _) 0 _).other (Nat.le_refl _) 1 _).other (Nat.le_refl _) 2 _).other (Nat.le_refl _) 3 _
  · exact h.other (h.other (h.other (h.other hcd2 (Nat.le_refl _) 0 _) (Nat.le_refl _) 1 _) (Nat.le_refl _) 2 _) (Nat.le_refl _) 3 _
end Go.Proofs.YtmijfcdmnibnpaaGreatDoor
/- Contracts of package value's size of a quoted text, the kind of a source form, and a list in source form. -/
namespace Go.Proofs.YtmijfcdmnibnpaaGreatDoor
open Go Go.RowKit

/-- How many bytes the quoted text has with which r begins; all of them if it does not end. -/
def sizeQ (r : ByteArray) : Nat := match endL (r.data.toList.drop 1) with
  | some d => d + 1
  | none => r.size
theorem sizeQ_le (r : ByteArray) : sizeQ r ≤ r.size := by
  unfold sizeQ
  have hs : r.data.toList.length = r.size := rfl
  cases h : endL (r.data.toList.drop 1) with
  | none => exact Nat.le_refl _
  | some d =>
    have := endL_le _ _ h
    rw [List.length_drop] at this
    simp only
    omega
theorem sizeQ_at (r : ByteArray) : (sizeQ r : Int) = if endAt r 1 = -1 then (r.size : Int) else endAt r 1 := by
  unfold sizeQ endAt
  cases h : endL (r.data.toList.drop 1) with
  | none => simp
  | some d =>
    simp only
    rw [if_neg (by omega)]
    omega
set_option maxHeartbeats 4000000 in
theorem quotedSize_any (s : ByteArray) (w : World) (hs : s.size ≤ 9223372036854775000) :
    Calls Tryz.prog 68 #[.string s] w fun e w' => e = .returned (.int .i64 (sizeQ s : Nat)) ∧ w' = w := by
  obtain ⟨r, hr⟩ : ∃ r, endAt s 1 = r := ⟨_, rfl⟩
  have hq := sizeQ_at s
  rw [hr] at hq
  obtain ⟨q, hqe⟩ : ∃ q : Nat, sizeQ s = q := ⟨_, rfl⟩
  rw [hqe] at hq ⊢
  clear hqe
  replace hq := Lib.hid hq
  go_enter Tryz.func68, Tryz.ntmps68
  go_wp2
  replace hr := Lib.hid hr
  go_loop [3] (fun v => ∃ k : Nat, k ≤ s.size + 1 ∧ v = .int .i64 k ∧ Hid (endAt s k = r)) (fun v => s.size + 1 - (intOf v).toNat)
  case atStart => exact ⟨1, by omega, rfl, hr⟩
  case round =>
    obtain ⟨k, hk, rfl, hk2⟩ := hrel
    by_cases hlt : k < s.size
    · have hlt' : (k : Int) < (s.size : Int) := by omega
      have hg := get_bang s k hlt
      by_cases h1 : s.get! k = 92
      · have hn := Lib.hid ((endAt_esc s k hlt h1).symm.trans hk2.out)
        have hb : (s[k].toNat : Int) = 92 := by rw [← hg, h1]; rfl
        replace h1 := Lib.hid h1
        replace hg := Lib.hid hg
        clear hk2
        go_wp2
        go_round
        case rel => exact ⟨k + 2, by omega, by go_num, hn⟩
        case measure => simp [intOf]; omega
      · by_cases h2 : s.get! k = 34
        · have hn := (endAt_quote s k hlt h2).symm.trans hk2.out
          have hne : ¬ r = -1 := by rw [← hn]; omega
          have hn := Lib.hid hn
          have hb : (s[k].toNat : Int) = 34 := by rw [← hg, h2]; rfl
          replace hne := Lib.hid hne
          replace h1 := Lib.hid h1
          replace h2 := Lib.hid h2
          replace hg := Lib.hid hg
          clear hk2
          go_wp2
          go_ret
          exact ⟨by rw [hq.out, if_neg hne.out, ← hn.out]; rfl, rfl⟩
        · have hn := Lib.hid ((endAt_next s k hlt h1 h2).symm.trans hk2.out)
          have hb : ((s[k].toNat : Int) == 92) = false := by rw [beq_eq_false_iff_ne, ← hg]; intro h; exact h1 (UInt8.toNat_inj.1 (by show _ = 92; omega))
          have hb2 : ((s[k].toNat : Int) == 34) = false := by rw [beq_eq_false_iff_ne, ← hg]; intro h; exact h2 (UInt8.toNat_inj.1 (by show _ = 34; omega))
          replace h1 := Lib.hid h1
          replace h2 := Lib.hid h2
          replace hg := Lib.hid hg
          clear hk2
          go_wp2
          go_round
          case rel => exact ⟨k + 1, by omega, by go_num, hn⟩
          case measure => simp [intOf]; omega
    · have hlt' : ¬ (k : Int) < (s.size : Int) := by omega
      have hr1 := hk2.out.symm.trans (endAt_out s k (by omega))
      replace hr1 := Lib.hid hr1
      go_wp2
      go_ret
      exact ⟨by rw [hq.out, if_pos hr1.out]; rfl, rfl⟩
theorem formOf_any (s : ByteArray) (w : World) :
    Calls Tryz.prog 44 #[.string s] w fun e w' => e = .returned (.int .i64 (formP s)) ∧ w' = w := by
  obtain ⟨r, hr⟩ : ∃ r, formP s = r := ⟨_, rfl⟩
  rw [hr]
  unfold formP at hr
  by_cases h1 : s = ⟨#[116, 114, 117, 101]⟩
  · subst h1
    rw [if_pos (.inl rfl)] at hr
    subst hr
    go_enter Tryz.func44, Tryz.ntmps44
    go_wp2
    go_ret
    exact ⟨rfl, rfl⟩
  · by_cases h2 : s = ⟨#[102, 97, 108, 115, 101]⟩
    · subst h2
      rw [if_pos (.inr rfl)] at hr
      subst hr
      go_enter Tryz.func44, Tryz.ntmps44
      go_wp2
      go_ret
      exact ⟨rfl, rfl⟩
    · rw [if_neg (by rintro (h | h); exact h1 h; exact h2 h)] at hr
      have d1 : (s.toList == [116, 114, 117, 101]) = false := by
        have := bytes_differ h1
        rw [show (⟨#[116, 114, 117, 101]⟩ : ByteArray).toList = [116, 114, 117, 101] from by rw [ByteArray.toList_eq]] at this
        exact this
      have d2 : (s.toList == [102, 97, 108, 115, 101]) = false := by
        have := bytes_differ h2
        rw [show (⟨#[102, 97, 108, 115, 101]⟩ : ByteArray).toList = [102, 97, 108, 115, 101] from by rw [ByteArray.toList_eq]] at this
        exact this
      replace h1 := Lib.hid h1
      replace h2 := Lib.hid h2
      have p1 := hasPrefix_any s ⟨#[34]⟩ w
      have p2 := hasPrefix_any s ⟨#[91]⟩ w
      have p3 := contains_any s 46 w
      change Calls _ _ _ _ (fun e w' => e = .returned (.bool (Lib.hasPrefix s.data.toList [34])) ∧ w' = w) at p1
      change Calls _ _ _ _ (fun e w' => e = .returned (.bool (Lib.hasPrefix s.data.toList [91])) ∧ w' = w) at p2
      by_cases q1 : Lib.hasPrefix s.data.toList [34] = true
      · rw [if_pos q1] at hr
        subst hr
        rw [q1] at p1
        replace p1 := Lib.hid p1
        clear p2 p3 q1
        go_enter Tryz.func44, Tryz.ntmps44
        go_wp2_with (go_at_call 63; refine p1.out.mono ?_; rintro e w' ⟨rfl, rfl⟩)
        go_ret
        exact ⟨rfl, rfl⟩
      · rw [if_neg q1] at hr
        rw [Bool.not_eq_true] at q1
        rw [q1] at p1
        replace p1 := Lib.hid p1
        clear q1
        by_cases q2 : Lib.hasPrefix s.data.toList [91] = true
        · rw [if_pos q2] at hr
          subst hr
          rw [q2] at p2
          replace p2 := Lib.hid p2
          clear p3 q2
          go_enter Tryz.func44, Tryz.ntmps44
          go_wp2_with (go_at_call 63; refine p1.out.mono ?_)
          rintro e w1 ⟨rfl, rfl⟩
          go_wp2_with (go_at_call 63; refine p2.out.mono ?_)
          rintro e w1 ⟨rfl, rfl⟩
          go_wp2
          go_ret
          exact ⟨rfl, rfl⟩
        · rw [if_neg q2] at hr
          rw [Bool.not_eq_true] at q2
          rw [q2] at p2
          replace p2 := Lib.hid p2
          clear q2
          by_cases q3 : 0 ≤ Lib.indexByte s.data.toList 46
          · rw [if_pos q3] at hr
            subst hr
            rw [decide_eq_true q3] at p3
            replace p3 := Lib.hid p3
            clear q3
            go_enter Tryz.func44, Tryz.ntmps44
            go_wp2_with (go_at_call 63; refine p1.out.mono ?_)
            rintro e w1 ⟨rfl, rfl⟩
            go_wp2_with (go_at_call 63; refine p2.out.mono ?_)
            rintro e w1 ⟨rfl, rfl⟩
            go_wp2_with (go_at_call 64; refine p3.out.mono ?_)
            rintro e w1 ⟨rfl, rfl⟩
            go_wp2
            go_ret
            exact ⟨rfl, rfl⟩
          · rw [if_neg q3] at hr
            subst hr
            rw [decide_eq_false q3] at p3
            replace p3 := Lib.hid p3
            clear q3
            go_enter Tryz.func44, Tryz.ntmps44
            go_wp2_with (go_at_call 63; refine p1.out.mono ?_)
            rintro e w1 ⟨rfl, rfl⟩
            go_wp2_with (go_at_call 63; refine p2.out.mono ?_)
            rintro e w1 ⟨rfl, rfl⟩
            go_wp2_with (go_at_call 64; refine p3.out.mono ?_)
            rintro e w1 ⟨rfl, rfl⟩
            go_wp2
            go_ret
            exact ⟨rfl, rfl⟩
end Go.Proofs.YtmijfcdmnibnpaaGreatDoor
/- Contract of package value's reading of a list in source form. -/
namespace Go.Proofs.YtmijfcdmnibnpaaGreatDoor
open Go Go.RowKit

def strLen : Value → Nat
  | .string s => s.size
  | _ => 0
theorem listP_yes {s : ByteArray} (h : s = ⟨#[91, 93]⟩) : listP s = some [] := if_pos h
theorem listP_rest {s : ByteArray} (h : s ≠ ⟨#[91, 93]⟩) (hp : Lib.hasPrefix s.data.toList [91] = true) : listP s = elemsF s.size (s.extract 1 s.size) := by unfold listP; rw [if_neg h, if_pos hp]
theorem listP_no {s : ByteArray} (h : s ≠ ⟨#[91, 93]⟩) (hp : Lib.hasPrefix s.data.toList [91] = false) : listP s = none := by unfold listP; rw [if_neg h, if_neg (by rw [hp]; simp)]
theorem extract_full (r : ByteArray) : r.extract 0 r.size = r := by simp
theorem trim_two (r p : ByteArray) (h : Lib.hasPrefix r.data.toList p.data.toList = true) : (⟨(Lib.trimPrefix r.data.toList p.data.toList).toArray⟩ : ByteArray) = r.extract p.size r.size := by
  have hs : r.data.toList.length = r.size := rfl
  have hp : p.data.toList.length = p.size := rfl
  apply ByteArray.ext
  apply Array.toList_inj.1
  rw [Lib.extract_data, List.take_of_length_le (by rw [List.length_drop]; omega)]
  unfold Lib.trimPrefix
  rw [if_pos h, hp]
theorem prefix_size (r p : ByteArray) (h : Lib.hasPrefix r.data.toList p.data.toList = true) : p.size ≤ r.size := by
  unfold Lib.hasPrefix at h
  have := (List.isPrefixOf_iff_prefix.1 h).length_le
  exact this
theorem trim_not (r p : ByteArray) (h : Lib.hasPrefix r.data.toList p.data.toList = false) : (⟨(Lib.trimPrefix r.data.toList p.data.toList).toArray⟩ : ByteArray) = r := by
  unfold Lib.trimPrefix
  rw [if_neg (by rw [h]; simp)]
theorem texts_one (t : ByteArray) (w : World) : TextsAre (some ⟨w.heap.size, 0, none⟩) [t] (w.alloc (.cells #[.string t] 9)) := by
  intro i hi
  obtain rfl : i = 0 := by simpa using hi
  refine ⟨w.heap.size, 0, rfl, by simp, ?_⟩
  rw [Lib.cell_of_heap (heap_alloc_new w _)]
  rfl
theorem OwnT.below {B : Nat} {v : Value} {l : List ByteArray} {w w' : World} (h : OwnT B v l w) (hb : Below w.heap.size w w') : OwnT B v l w' := by
  refine ⟨h.1, ?_⟩
  rcases h.2 with h0 | ⟨g, cap, cur, hv, hB, hg, rest⟩
  · exact .inl h0
  · have hlt : g < w.heap.size := (Array.getElem?_eq_some_iff.1 hg).1
    exact .inr ⟨g, cap, cur, hv, hB, (hb.block g hlt).trans hg, rest⟩
/-- What readList's loop holds. -/
structure RL (s : ByteArray) (R : Option (List ByteArray)) (B : Nat) (v : Value) (r : ByteArray) (b : Bool) (w wr : World) : Prop where
  ex : ∃ acc : List ByteArray, OwnT B v acc wr ∧ 2 * acc.length + r.size ≤ s.size ∧ (b = false → R = none) ∧ (b = true → ∃ f, r.size ≤ f ∧ R = (elemsF f r).map (acc ++ ·))
  below : Below B w wr
set_option maxHeartbeats 8000000 in
theorem readList_any (s : ByteArray) (w : World) (hs : s.size ≤ 1900000) (hT : Tabs w) :
    Calls Tryz.prog 47 #[.string s] w fun e w' => (∃ (a : Option Addr) (c : Nat), e = .returned (.tuple #[.slice a (((listP s).getD []).length : Nat) c, .bool (listP s).isSome]) ∧ TextsFrom w.heap.size a ((listP s).getD []) w' ∧ (a = none → c = 0) ∧ ((listP s).getD []).length ≤ c) ∧ Below w.heap.size w w' := by
  by_cases h0 : s = ⟨#[91, 93]⟩
  · rw [listP_yes h0]
    subst h0
    go_enter Tryz.func47, Tryz.ntmps47
    go_wp2
    go_ret2
    exact ⟨⟨none, 0, rfl, fun i hi => by simp at hi, fun _ => rfl, Nat.le_refl _⟩, Below.refl _ _⟩
  · have d0 : (s.toList == [91, 93]) = false := by
      have := bytes_differ h0
      rw [show (⟨#[91, 93]⟩ : ByteArray).toList = [91, 93] from by rw [ByteArray.toList_eq]] at this
      exact this
    have hcp := cutPrefix_any s ⟨#[91]⟩ w
    have hstart : ∃ (r : ByteArray) (b : Bool), (⟨(Lib.trimPrefix s.data.toList [91]).toArray⟩ : ByteArray) = r ∧ Lib.hasPrefix s.data.toList [91] = b ∧ RL s (listP s) w.heap.size (.slice none 0 0) r b w w := by
      refine ⟨_, _, rfl, rfl, ⟨[], ownT_nil _ _, ?_, ?_, ?_⟩, Below.refl _ _⟩
      · by_cases hp : Lib.hasPrefix s.data.toList [91] = true
        · rw [trim_two s ⟨#[91]⟩ hp, ByteArray.size_extract]
          simp
        · rw [trim_not s ⟨#[91]⟩ (by simpa using hp)]
          simp
      · intro hp
        exact listP_no h0 hp
      · intro hp
        refine ⟨s.size, ?_, ?_⟩
        · rw [trim_two s ⟨#[91]⟩ hp, ByteArray.size_extract]
          omega
        · rw [trim_two s ⟨#[91]⟩ hp, listP_rest h0 hp]
          show elemsF s.size (s.extract 1 s.size) = (elemsF s.size (s.extract 1 s.size)).map ([] ++ ·)
          cases elemsF s.size (s.extract 1 s.size) <;> simp
    obtain ⟨r0, b0, e1, e2, hrl0⟩ := hstart
    change Calls _ _ _ _ (fun e w' => e = .returned (.tuple #[.string ⟨(Lib.trimPrefix s.data.toList [91]).toArray⟩, .bool (Lib.hasPrefix s.data.toList [91])]) ∧ w' = w) at hcp
    rw [e1, e2] at hcp
    clear e1 e2
    generalize listP s = R at hrl0 ⊢
    replace hcp := Lib.hid hcp
    replace h0 := Lib.hid h0
    replace hrl0 := Lib.hid hrl0
    go_enter Tryz.func47, Tryz.ntmps47
    go_wp2_with (go_at_call 65; refine hcp.out.mono ?_)
    rintro e w1 ⟨rfl, hw1⟩
    rw [hw1]
    clear hw1 hcp
    go_wp2
    go_loopw [4, 5, 6, 7, 8, 9] (fun v5 x b _ _ _ wr => ∃ (r : ByteArray) (bb : Bool), x = .string r ∧ b = .bool bb ∧ Hid (RL s R w.heap.size v5 r bb w wr)) (fun _ x _ _ _ _ _ => strLen x)
    case atStart => exact ⟨r0, b0, rfl, rfl, hrl0⟩
    case round =>
      obtain ⟨r, bb, rfl, rfl, hrl⟩ := hrel
      clear hrl0
      cases bb with
      | false =>
        obtain ⟨⟨acc, hown, hlen, hno, hyes⟩, hbel⟩ := hrl.out
        have hR := hno rfl
        clear hrl hown hyes hno
        subst hR
        go_wp2
        go_ret2
        exact ⟨⟨none, 0, rfl, fun i hi => by simp at hi, fun _ => rfl, Nat.le_refl _⟩, hbel⟩
      | true =>
        obtain ⟨⟨acc, hown, hlen, hno, hyes⟩, hbel⟩ := hrl.out
        obtain ⟨f, hf, hlist⟩ := hyes rfl
        clear hrl hno hyes
        have hsq := sizeQ_le r
        have hqs := Lib.hid (quotedSize_any r wr (by omega))
        have hsq' : ((sizeQ r : Nat) : Int) ≤ (r.size : Int) := by omega
        obtain ⟨q, hq⟩ : ∃ q, sizeQ r = q := ⟨_, rfl⟩
        rw [hq] at hqs hsq hsq'
        have hun := unquote_any (r.extract 0 q) wr (by rw [ByteArray.size_extract]; omega) (hT.below hbel)
        rw [unqV_eq] at hun
        by_cases hue : (unqP (r.extract 0 q)).2 = 0
        · obtain ⟨d, hd⟩ : ∃ d, endL (r.data.toList.drop 1) = some d := by
            cases hd : endL (r.data.toList.drop 1) with
            | some d => exact ⟨d, rfl⟩
            | none =>
              exfalso
              have hq2 : q = r.size := by rw [← hq]; unfold sizeQ; rw [hd]
              rw [hq2, extract_full] at hue
              exact unqP_end r hd hue
          obtain rfl : q = d + 1 := by rw [← hq]; unfold sizeQ; rw [hd]
          have hd1 := endL_le _ _ hd
          have hz' : (r.extract (d + 1) r.size).size = r.size - (d + 1) := by rw [ByteArray.size_extract]; omega
          have hlast := fun h => elemsF_last f r d hf hd hue h
          have hcut := fun h => elemsF_cut f r d hd h
          have hnext := fun g h => elemsF_next g r d hd hue h
          rw [hue] at hun
          obtain ⟨t, ht⟩ : ∃ t, (unqP (r.extract 0 (d + 1))).1 = t := ⟨_, rfl⟩
          rw [ht] at hun hlast hnext
          obtain ⟨r', hr'⟩ : ∃ r', r.extract (d + 1) r.size = r' := ⟨_, rfl⟩
          rw [hr'] at hlast hcut hnext hz'
          replace hr' := Lib.hid hr'
          replace hun := Lib.hid hun
          replace hq := Lib.hid hq
          replace hd := Lib.hid hd
          replace ht := Lib.hid ht
          replace hlast := Lib.hid hlast
          replace hcut := Lib.hid hcut
          replace hnext := Lib.hid hnext
          replace hue := Lib.hid hue
          replace hlist := Lib.hid hlist
          by_cases he : r' = ⟨#[93]⟩
          · have hR : R = some (acc ++ [t]) := by rw [hlist.out, hlast.out he]; rfl
            subst hR
            have e1 : ((r.extract (d + 1) r.size).toList == [93]) = true := by rw [hr'.out, he, ByteArray.toList_eq]; rfl
            have hal : acc.length + 1 ≤ 1000000 := by omega
            clear hlist hlast hcut hnext he hz'
            go_wp2_with (first
              | (go_at_call 68; refine hqs.out.mono ?_; rintro e w1 ⟨rfl, rfl⟩)
              | (go_at_call 46; refine hun.out.mono ?_; rintro e w2 ⟨rfl, hb2⟩; have hbel2 := hbel.trans (hb2.mono hbel.size); have hbel3 := hbel2.alloc hbel2.size (.cells #[.string t] 9); have hown2 := (hown.below hb2).below ((Below.refl _ w2).alloc (Nat.le_refl _) (.cells #[.string t] 9)))
              | (at_builtin; refine wpList_ownT rfl _ _ rfl [t] (some ⟨w2.heap.size, 0, none⟩) 1 hown2 rfl rfl (by intro h; cases h) (texts_one t w2) (by simpa using hal) hbel3.size ?_; intro v5 w5 hown5 hb5; obtain ⟨a5, c5, rfl, hn5, hc5, ht5⟩ := hown5.texts; obtain ⟨n5, hn5e⟩ : ∃ n5, (acc ++ [t]).length = n5 := ⟨_, rfl⟩; rw [hn5e] at hc5 ⊢; have hc5' : (n5 : Int) ≤ (c5 : Int) := (by omega)))
            go_ret2
            refine ⟨⟨a5, n5, ?_, ht5, ?_, ?_⟩, hbel3.trans hb5⟩
            · rw [← hn5e]; rfl
            · intro h
              have := hn5 h
              omega
            · rw [← hn5e]; exact Nat.le_refl _
          · have e1 : ((r.extract (d + 1) r.size).toList == [93]) = false := by
              rw [hr'.out]
              have := bytes_differ he
              rw [show (⟨#[93]⟩ : ByteArray).toList = [93] from by rw [ByteArray.toList_eq]] at this
              exact this
            have hal : acc.length + 1 ≤ 1000000 := by omega
            have hcp := fun W => cutPrefix_any (r.extract (d + 1) r.size) ⟨#[44, 32]⟩ W
            rw [hr'.out] at hcp
            have hst : ∃ (r2 : ByteArray) (b2 : Bool), (⟨(Lib.trimPrefix r'.data.toList [44, 32]).toArray⟩ : ByteArray) = r2 ∧ Lib.hasPrefix r'.data.toList [44, 32] = b2 ∧ r2.size ≤ r'.size ∧ (b2 = false → R = none) ∧ (b2 = true → ∃ g, r2.size ≤ g ∧ R = (elemsF g r2).map ((acc ++ [t]) ++ ·)) := by
              refine ⟨_, _, rfl, rfl, ?_, ?_, ?_⟩
              · by_cases hp : Lib.hasPrefix r'.data.toList [44, 32] = true
                · rw [trim_two r' ⟨#[44, 32]⟩ hp, ByteArray.size_extract]; omega
                · rw [trim_not r' ⟨#[44, 32]⟩ (by simpa using hp)]; exact Nat.le_refl _
              · intro hp
                rw [hlist.out, hcut.out he (by rw [hp]; simp)]
                rfl
              · intro hp
                obtain ⟨g, rfl⟩ : ∃ g, f = g + 1 := ⟨f - 1, by omega⟩
                have h2 := prefix_size r' ⟨#[44, 32]⟩ hp
                refine ⟨g, ?_, ?_⟩
                · rw [trim_two r' ⟨#[44, 32]⟩ hp, ByteArray.size_extract]
                  omega
                · rw [trim_two r' ⟨#[44, 32]⟩ hp, hlist.out, hnext.out g he hp, Option.map_map]
                  show _ = (elemsF g (r'.extract 2 r'.size)).map _
                  congr 1
                  funext x
                  simp
            obtain ⟨r2, b2, g1, g2, g3, g4, g5⟩ := hst
            change ∀ W, Calls _ _ _ W (fun e w' => e = .returned (.tuple #[.string ⟨(Lib.trimPrefix r'.data.toList [44, 32]).toArray⟩, .bool (Lib.hasPrefix r'.data.toList [44, 32])]) ∧ w' = W) at hcp
            rw [g1, g2] at hcp
            have hcp2 : ∀ W, Calls Tryz.prog 65 #[.string (r.extract (d + 1) r.size), .string ⟨#[44, 32]⟩] W (fun e w' => e = .returned (.tuple #[.string r2, .bool b2]) ∧ w' = W) := by rw [hr'.out]; exact hcp
            clear hlist hlast hcut hnext he hcp g1 g2
            replace hcp2 := Lib.hid hcp2
            replace g4 := Lib.hid g4
            replace g5 := Lib.hid g5
            have hrz : r'.size + 2 ≤ r.size := by omega
            clear hr' hz'
            go_wp2_with (first
              | (go_at_call 68; refine hqs.out.mono ?_; rintro e w1 ⟨rfl, rfl⟩)
              | (go_at_call 46; refine hun.out.mono ?_; rintro e w2 ⟨rfl, hb2⟩; have hbel2 := hbel.trans (hb2.mono hbel.size); have hbel3 := hbel2.alloc hbel2.size (.cells #[.string t] 9); have hown2 := (hown.below hb2).below ((Below.refl _ w2).alloc (Nat.le_refl _) (.cells #[.string t] 9)))
              | (at_builtin; refine wpList_ownT rfl _ _ rfl [t] (some ⟨w2.heap.size, 0, none⟩) 1 hown2 rfl rfl (by intro h; cases h) (texts_one t w2) (by simpa using hal) hbel3.size ?_; intro v5 w5 hown5 hb5))
            go_wp2_with (go_at_call 65; refine (hcp2.out _).mono ?_)
            rintro e w6 ⟨rfl, hw6⟩
            rw [hw6]
            clear hw6
            go_wp2
            go_roundw
            case rel =>
              refine ⟨r2, b2, rfl, rfl, Lib.hid ⟨⟨acc ++ [t], hown5, ?_, g4.out, g5.out⟩, hbel3.trans hb5⟩⟩
              rw [List.length_append, List.length_singleton]
              omega
            case measure =>
              show r2.size < r.size
              omega
        · have hnone : R = none := by
            rw [hlist]
            have : elemsF f r = none := by
              cases hd : endL (r.data.toList.drop 1) with
              | none => exact elemsF_none f r hd
              | some d =>
                have hq2 : q = d + 1 := by rw [← hq]; unfold sizeQ; rw [hd]
                rw [hq2] at hue
                exact elemsF_bad f r d hd hue
            rw [this]
            rfl
          clear hlist
          subst hnone
          have hne : ((unqP (r.extract 0 q)).2 != 0) = true := by simpa using hue
          generalize (unqP (r.extract 0 q)).2 = ue at hun hne
          generalize (unqP (r.extract 0 q)).1 = ut at hun
          replace hun := Lib.hid hun
          replace hq := Lib.hid hq
          clear hue
          go_wp2_with (first
            | (go_at_call 68; refine hqs.out.mono ?_; rintro e w1 ⟨rfl, rfl⟩)
            | (go_at_call 46; refine hun.out.mono ?_; rintro e w2 ⟨rfl, hb2⟩))
          go_ret2
          exact ⟨⟨none, 0, rfl, fun i hi => by simp at hi, fun _ => rfl, Nat.le_refl _⟩, hbel.trans (hb2.mono hbel.size)⟩
end Go.Proofs.YtmijfcdmnibnpaaGreatDoor
/- Contracts of package value's reading of a source form, and of Parse. -/
namespace Go.Proofs.YtmijfcdmnibnpaaGreatDoor
open Go Go.RowKit

/-- A value in the making: in the block behind a block of zeros. -/
structure RV (x : List Value) (B : Nat) (w wr : World) : Prop where
  first : wr.heap[B]? = some (.cells #[.int .i64 0, .int .i64 0, .string ⟨#[]⟩, .slice none 0 0] 29 (0, 0))
  here : wr.heap[B + 1]? = some (.cells x.toArray 29 (0, 0))
  below : Below B w wr
theorem RV.lt {x : List Value} {B : Nat} {w wr : World} (h : RV x B w wr) : B + 1 < wr.heap.size := (Array.getElem?_eq_some_iff.1 h.here).1
theorem RV.grown {x : List Value} {B : Nat} {w wr w' : World} (h : RV x B w wr) (hb : Below wr.heap.size wr w') : RV x B w w' :=
  ⟨(hb.block B (by have := h.lt; omega)).trans h.first, (hb.block (B + 1) h.lt).trans h.here, h.below.trans (hb.mono (by have := h.lt; omega))⟩
theorem RV.put {x : List Value} {B : Nat} {w wr : World} (h : RV x B w wr) (i : Nat) (v : Value) : RV (x.set i v) B w (wr.setCell ⟨B + 1, i, none⟩ v) := by
  refine ⟨?_, ?_, h.below.setCell (p := ⟨B + 1, i, none⟩) (Nat.le_succ _) _⟩
  · rw [Below.heap_setCell _ _ _ _ (by simp)]
    exact h.first
  · show (wr.heap.modify (B + 1) _)[B + 1]? = _
    rw [Array.getElem?_modify, if_pos rfl, h.here]
    simp
theorem RV.cell {x : List Value} {B : Nat} {w wr : World} (h : RV x B w wr) (i : Nat) (hi : i < x.length) : wr.cell? ⟨B + 1, i, none⟩ = some x[i] := by
  rw [Lib.cell_of_heap h.here]
  simp [hi]
theorem RV.free {x : List Value} {B : Nat} {w wr : World} (h : RV x B w wr) (i : Nat) : wr.frozen? ⟨B + 1, i, none⟩ = false := Lib.frozen_of_heap h.here i
theorem RV.zero {x : List Value} {B : Nat} {w wr : World} (h : RV x B w wr) : wr.cell? ⟨B, 0, none⟩ = some (.int .i64 0) ∧ wr.cell? ⟨B, 1, none⟩ = some (.int .i64 0) ∧ wr.cell? ⟨B, 2, none⟩ = some (.string ⟨#[]⟩) ∧ wr.cell? ⟨B, 3, none⟩ = some (.slice none 0 0) := by
  refine ⟨?_, ?_, ?_, ?_⟩ <;> (rw [Lib.cell_of_heap h.first]; rfl)
theorem RV.free0 {x : List Value} {B : Nat} {w wr : World} (h : RV x B w wr) (i : Nat) : wr.frozen? ⟨B, i, none⟩ = false := Lib.frozen_of_heap h.first i
theorem RV.start (x : List Value) (w : World) : RV x w.heap.size w ((w.alloc (.cells #[.int .i64 0, .int .i64 0, .string ⟨#[]⟩, .slice none 0 0] 29)).alloc (.cells x.toArray 29)) := by
  refine ⟨?_, ?_, ((Below.refl _ w).alloc (Nat.le_refl _) _).alloc (by simp) _⟩
  · rw [Below.heap_alloc _ _ _ (by simp)]
    exact heap_alloc_new w _
  · have := heap_alloc_new (w.alloc (.cells #[.int .i64 0, .int .i64 0, .string ⟨#[]⟩, .slice none 0 0] 29)) (.cells x.toArray 29)
    rw [World.size_alloc] at this
    exact this
theorem formP_bool {s : ByteArray} (h : formP s = 1) : s = ⟨#[116, 114, 117, 101]⟩ ∨ s = ⟨#[102, 97, 108, 115, 101]⟩ := by
  unfold formP at h
  split at h
  · assumption
  · split at h
    · cases h
    · split at h
      · cases h
      · split at h <;> cases h
/-- What a read hands back. -/
def ReadEnd (x : Val) (b : Value) (B : Nat) (w : World) (e : Ending) (w' : World) : Prop :=
  (∃ (a : Option Addr) (c : Nat), e = .returned (.tuple #[x.agg a c, b]) ∧ TextsFrom B a x.list w' ∧ (a = none → c = 0) ∧ x.list.length ≤ c) ∧ Below B w w'
theorem below_four {B : Nat} {w wr : World} (h : Below B w wr) (v0 v1 v2 v3 : Value) : Below B w ((((wr.setCell ⟨B, 0, none⟩ v0).setCell ⟨B, 1, none⟩ v1).setCell ⟨B, 2, none⟩ v2).setCell ⟨B, 3, none⟩ v3) :=
  (((h.setCell (p := ⟨B, 0, none⟩) (Nat.le_refl _) _).setCell (p := ⟨B, 1, none⟩) (Nat.le_refl _) _).setCell (p := ⟨B, 2, none⟩) (Nat.le_refl _) _).setCell (p := ⟨B, 3, none⟩) (Nat.le_refl _) _
theorem readEnd_plain {x : Val} {b : Value} {B : Nat} {w wr : World} (hl : x.list = []) (hb : Below B w wr) (v0 v1 v2 v3 : Value) : ReadEnd x b B w (.returned (.tuple #[x.agg none 0, b])) ((((wr.setCell ⟨B, 0, none⟩ v0).setCell ⟨B, 1, none⟩ v1).setCell ⟨B, 2, none⟩ v2).setCell ⟨B, 3, none⟩ v3) :=
  ⟨⟨none, 0, rfl, fun i hi => by rw [hl] at hi; simp at hi, fun _ => rfl, by rw [hl]; exact Nat.le_refl _⟩, below_four hb v0 v1 v2 v3⟩
theorem RV.facts {v0 v1 v2 v3 : Value} {B : Nat} {w wr : World} (h : RV [v0, v1, v2, v3] B w wr) : wr.cell? ⟨B + 1, 0, none⟩ = some v0 ∧ wr.cell? ⟨B + 1, 1, none⟩ = some v1 ∧ wr.cell? ⟨B + 1, 2, none⟩ = some v2 ∧ wr.cell? ⟨B + 1, 3, none⟩ = some v3 := by
  refine ⟨?_, ?_, ?_, ?_⟩ <;> (rw [Lib.cell_of_heap h.here]; rfl)
set_option maxHeartbeats 8000000 in
theorem read_any (s : ByteArray) (w : World) (hs : s.size ≤ 1900000) (hT : Tabs w) :
    Calls Tryz.prog 23 #[.string s] w fun e w' => ReadEnd (readP s).1 (.bool (readP s).2) w.heap.size w e w' := by
  have hfo := formOf_any s (w.alloc (.cells #[.int .i64 0, .int .i64 0, .string ⟨#[]⟩, .slice none 0 0] 29))
  have hrv := RV.start [.int .i64 (formP s), .int .i64 0, .string ⟨#[]⟩, .slice none 0 0] w
  obtain ⟨R, hR⟩ : ∃ R, readP s = R := ⟨_, rfl⟩
  rw [hR]
  unfold readP at hR
  have hfc := formP_cases s
  have hbo : formP s = 1 → s = ⟨#[116, 114, 117, 101]⟩ ∨ s = ⟨#[102, 97, 108, 115, 101]⟩ := formP_bool
  generalize formP s = f at hfo hrv hR hfc hbo
  replace hR := Lib.hid hR
  replace hbo := Lib.hid hbo
  replace hfo := Lib.hid hfo
  go_enter Tryz.func23, Tryz.ntmps23
  go_upto_region 2 with (go_at_call 44; refine hfo.out.mono ?_; rintro e w1 ⟨rfl, rfl⟩)
  change RV _ _ _ ((w.alloc (.cells #[.int .i64 0, .int .i64 0, .string ⟨#[]⟩, .slice none 0 0] 29)).alloc (.cells #[.int .i64 f, .int .i64 0, .string ⟨#[]⟩, .slice none 0 0] 29)) at hrv
  generalize (w.alloc (.cells #[.int .i64 0, .int .i64 0, .string ⟨#[]⟩, .slice none 0 0] 29)).alloc (.cells #[.int .i64 f, .int .i64 0, .string ⟨#[]⟩, .slice none 0 0] 29) = w0 at hrv ⊢
  clear hfo
  obtain ⟨c0, c1, c2, c3⟩ := hrv.facts
  have cf := hrv.free
  obtain ⟨z0, z1, z2, z3⟩ := hrv.zero
  have zf := hrv.free0
  have hbl := hrv.below
  rcases hfc with rfl | rfl | rfl | rfl | rfl
  · have hR2 := hR.out
    rw [if_pos rfl] at hR2
    clear hR
    rcases hbo.out rfl with rfl | rfl
    · rw [if_pos rfl] at hR2
      subst hR2
      have p1 := hrv.put 1 (.int .i64 1)
      clear hrv hbo
      go_wp2
      refine bodyPost_ret (v := .tuple #[.agg #[.int .i64 1, .int .i64 1, .string ⟨#[]⟩, .slice none 0 0], .bool true]) (by simp [results, Tryz.results23, go_sem, z0, z1, z2, z3]) rfl (readEnd_plain (x := ⟨1, 1, ⟨#[]⟩, []⟩) rfl p1.below _ _ _ _)
    · rw [if_neg (by decide)] at hR2
      subst hR2
      clear hrv hbo
      go_wp2
      refine bodyPost_ret (v := .tuple #[.agg #[.int .i64 1, .int .i64 0, .string ⟨#[]⟩, .slice none 0 0], .bool true]) (by simp [results, Tryz.results23, go_sem, z0, z1, z2, z3]) rfl (readEnd_plain (x := ⟨1, 0, ⟨#[]⟩, []⟩) rfl hbl _ _ _ _)
  · have hR2 := hR.out
    rw [if_neg (by decide), if_pos rfl] at hR2
    clear hR hbo c1 c2 c3 cf z0 z1 z2 z3 zf
    have hc := parse_any s w0
    rw [parseV_eq] at hc; unfold numE at hc
    have herr := parseP_err s
    generalize (parseP s).1 = n at hc hR2
    generalize (parseP s).2 = er at hc hR2 herr
    replace hc := Lib.hid hc
    rcases herr with rfl | rfl | rfl
    all_goals
      subst hR2
      go_wp2_with (go_at_call 45; refine hc.out.mono ?_)
      rintro e w1 ⟨rfl, hb1⟩
      have hr1 := hrv.grown hb1
      clear c0
      obtain ⟨c0, c1, c2, c3⟩ := hr1.facts
      have cf := hr1.free
      obtain ⟨z0, z1, z2, z3⟩ := hr1.zero
      have zf := hr1.free0
      clear hrv
      have p1 := hr1.put 1 (.int .i64 n)
      clear hr1
      go_wp2
    · refine bodyPost_ret (v := .tuple #[.agg #[.int .i64 2, .int .i64 n, .string ⟨#[]⟩, .slice none 0 0], .bool true]) (by simp [results, Tryz.results23, go_sem, z0, z1, z2, z3]) rfl (readEnd_plain (x := ⟨2, n, ⟨#[]⟩, []⟩) rfl p1.below _ _ _ _)
    · refine bodyPost_ret (v := .tuple #[.agg #[.int .i64 2, .int .i64 n, .string ⟨#[]⟩, .slice none 0 0], .bool false]) (by simp [results, Tryz.results23, go_sem, z0, z1, z2, z3]) rfl (readEnd_plain (x := ⟨2, n, ⟨#[]⟩, []⟩) rfl p1.below _ _ _ _)
    · refine bodyPost_ret (v := .tuple #[.agg #[.int .i64 2, .int .i64 n, .string ⟨#[]⟩, .slice none 0 0], .bool false]) (by simp [results, Tryz.results23, go_sem, z0, z1, z2, z3]) rfl (readEnd_plain (x := ⟨2, n, ⟨#[]⟩, []⟩) rfl p1.below _ _ _ _)
  · have hR2 := hR.out
    rw [if_neg (by decide), if_neg (by decide), if_pos rfl] at hR2
    clear hR hbo c1 c2 c3 cf z0 z1 z2 z3 zf
    have hc := unquote_any s w0 (by omega) (hT.below hbl)
    rw [unqV_eq] at hc
    have herr := unqP_err s
    generalize (unqP s).1 = n at hc hR2
    generalize (unqP s).2 = er at hc hR2 herr
    replace hc := Lib.hid hc
    rcases herr with rfl | rfl | rfl
    all_goals
      subst hR2
      go_wp2_with (go_at_call 46; refine hc.out.mono ?_)
      rintro e w1 ⟨rfl, hb1⟩
      have hr1 := hrv.grown hb1
      clear c0
      obtain ⟨c0, c1, c2, c3⟩ := hr1.facts
      have cf := hr1.free
      obtain ⟨z0, z1, z2, z3⟩ := hr1.zero
      have zf := hr1.free0
      clear hrv
      have p1 := hr1.put 2 (.string n)
      clear hr1
      go_wp2
    · refine bodyPost_ret (v := .tuple #[.agg #[.int .i64 3, .int .i64 0, .string n, .slice none 0 0], .bool true]) (by simp [results, Tryz.results23, go_sem, z0, z1, z2, z3]) rfl (readEnd_plain (x := ⟨3, 0, n, []⟩) rfl p1.below _ _ _ _)
    · refine bodyPost_ret (v := .tuple #[.agg #[.int .i64 3, .int .i64 0, .string n, .slice none 0 0], .bool false]) (by simp [results, Tryz.results23, go_sem, z0, z1, z2, z3]) rfl (readEnd_plain (x := ⟨3, 0, n, []⟩) rfl p1.below _ _ _ _)
    · refine bodyPost_ret (v := .tuple #[.agg #[.int .i64 3, .int .i64 0, .string n, .slice none 0 0], .bool false]) (by simp [results, Tryz.results23, go_sem, z0, z1, z2, z3]) rfl (readEnd_plain (x := ⟨3, 0, n, []⟩) rfl p1.below _ _ _ _)
  · have hR2 := hR.out
    rw [if_neg (by decide), if_neg (by decide), if_neg (by decide), if_pos rfl] at hR2
    subst hR2
    have p1 := hrv.put 2 (.string s)
    clear hrv hbo hR
    go_wp2
    refine bodyPost_ret (v := .tuple #[.agg #[.int .i64 4, .int .i64 0, .string s, .slice none 0 0], .bool true]) (by simp [results, Tryz.results23, go_sem, z0, z1, z2, z3]) rfl (readEnd_plain (x := ⟨4, 0, s, []⟩) rfl p1.below _ _ _ _)
  · have hR2 := hR.out
    rw [if_neg (by decide), if_neg (by decide), if_neg (by decide), if_neg (by decide)] at hR2
    clear hR hbo c1 c2 c3 cf z0 z1 z2 z3 zf
    have hc := readList_any s w0 hs (hT.below hbl)
    generalize (listP s).getD [] = l at hc hR2
    generalize (listP s).isSome = b at hc hR2
    subst hR2
    replace hc := Lib.hid hc
    have hw0 := hrv.lt
    go_wp2_with (go_at_call 47; refine hc.out.mono ?_)
    rintro e w1 ⟨⟨a, c, rfl, ht1, hn1, hc1⟩, hb1⟩
    have hr1 := hrv.grown hb1
    clear c0
    obtain ⟨c0, c1, c2, c3⟩ := hr1.facts
    have cf := hr1.free
    obtain ⟨z0, z1, z2, z3⟩ := hr1.zero
    have zf := hr1.free0
    clear hrv
    have p1 := hr1.put 3 (.slice a l.length c)
    clear hr1 hc
    cases b
    all_goals
      go_wp2
    · refine bodyPost_ret (v := .tuple #[.agg #[.int .i64 5, .int .i64 0, .string ⟨#[]⟩, .slice a l.length c], .bool false]) (by simp [results, Tryz.results23, go_sem, z0, z1, z2, z3]) rfl ⟨⟨a, c, rfl, ?_, hn1, hc1⟩, below_four p1.below _ _ _ _⟩
      exact ((((((ht1.set (B' := w.heap.size + 1) hw0 3 _).set (B' := w.heap.size) (by omega) 0 _).set (B' := w.heap.size) (by omega) 1 _).set (B' := w.heap.size) (by omega) 2 _).set (B' := w.heap.size) (by omega) 3 _)).mono (by omega)
    · refine bodyPost_ret (v := .tuple #[.agg #[.int .i64 5, .int .i64 0, .string ⟨#[]⟩, .slice a l.length c], .bool true]) (by simp [results, Tryz.results23, go_sem, z0, z1, z2, z3]) rfl ⟨⟨a, c, rfl, ?_, hn1, hc1⟩, below_four p1.below _ _ _ _⟩
      exact ((((((ht1.set (B' := w.heap.size + 1) hw0 3 _).set (B' := w.heap.size) (by omega) 0 _).set (B' := w.heap.size) (by omega) 1 _).set (B' := w.heap.size) (by omega) 2 _).set (B' := w.heap.size) (by omega) 3 _)).mono (by omega)
end Go.Proofs.YtmijfcdmnibnpaaGreatDoor
/- Contract of package value's Parse. -/
namespace Go.Proofs.YtmijfcdmnibnpaaGreatDoor
open Go Go.RowKit

theorem unqP_size (s : ByteArray) : (unqP s).1.size ≤ s.size := by
  unfold unqP
  split
  · rename_i hc
    cases hu : unS (inner s) false [] with
    | none => exact Nat.zero_le _
    | some o =>
      have h := unS_length _ _ _ _ hu
      have hi : (inner s).length ≤ s.size := by
        unfold inner
        have hs : s.data.toList.length = s.size := rfl
        rw [List.length_take, List.length_drop]
        omega
      simp only [List.length_nil, Nat.zero_add] at h
      simp only
      split
      · show o.toArray.size ≤ _
        rw [List.size_toArray]
        omega
      · exact Nat.zero_le _
  · exact Nat.zero_le _
theorem elemsF_small : ∀ (f : Nat) (r : ByteArray) (l : List ByteArray), elemsF f r = some l → l.length ≤ r.size ∧ ∀ t ∈ l, t.size ≤ r.size
  | 0, r, l, h => by cases h
  | f + 1, r, l, h => by
    cases hd : endL (r.data.toList.drop 1) with
    | none => rw [elemsF_none _ r hd] at h; cases h
    | some d =>
      have hd1 := endL_le _ _ hd
      have hs : r.data.toList.length = r.size := rfl
      rw [List.length_drop] at hd1
      have hx : (unqP (r.extract 0 (d + 1))).1.size ≤ r.size := by
        have := unqP_size (r.extract 0 (d + 1))
        rw [ByteArray.size_extract] at this
        omega
      by_cases hu : (unqP (r.extract 0 (d + 1))).2 = 0
      · by_cases hr : r.extract (d + 1) r.size = ⟨#[93]⟩
        · rw [elemsF, hd] at h
          simp only at h
          rw [if_pos hu, if_pos hr] at h
          cases h
          refine ⟨by simp; omega, fun t ht => ?_⟩
          obtain rfl := List.mem_singleton.1 ht
          exact hx
        · by_cases hp : Lib.hasPrefix (r.extract (d + 1) r.size).data.toList [44, 32] = true
          · rw [elemsF_next f r d hd hu hr hp] at h
            obtain ⟨m, hm, rfl⟩ := Option.map_eq_some_iff.1 h
            obtain ⟨h1, h2⟩ := elemsF_small f _ m hm
            have hz : ((r.extract (d + 1) r.size).extract 2 (r.extract (d + 1) r.size).size).size + 1 ≤ r.size := by
              rw [ByteArray.size_extract, ByteArray.size_extract]
              omega
            refine ⟨by rw [List.length_cons]; omega, fun t ht => ?_⟩
            rcases List.mem_cons.1 ht with rfl | ht
            · exact hx
            · have := h2 t ht
              omega
          · rw [elemsF_cut (f + 1) r d hd hr hp] at h
            cases h
      · rw [elemsF_bad (f + 1) r d hd hu] at h
        cases h
theorem listP_small (s : ByteArray) : ((listP s).getD []).length ≤ s.size ∧ ∀ t ∈ (listP s).getD [], t.size ≤ s.size := by
  unfold listP
  split
  · exact ⟨Nat.zero_le _, fun t ht => by simp at ht⟩
  · split
    · cases h : elemsF s.size (s.extract 1 s.size) with
      | none => exact ⟨Nat.zero_le _, fun t ht => by simp at ht⟩
      | some l =>
        obtain ⟨h1, h2⟩ := elemsF_small _ _ _ h
        rw [ByteArray.size_extract] at h1
        refine ⟨by simp only [Option.getD_some]; omega, fun t ht => ?_⟩
        have := h2 t (by simpa using ht)
        rw [ByteArray.size_extract] at this
        omega
    · exact ⟨Nat.zero_le _, fun t ht => by simp at ht⟩
theorem readP_small (s : ByteArray) : (readP s).1.text.size ≤ s.size ∧ (readP s).1.list.length ≤ s.size ∧ ∀ t ∈ (readP s).1.list, t.size ≤ s.size := by
  unfold readP
  split
  · exact ⟨Nat.zero_le _, Nat.zero_le _, fun t ht => by simp at ht⟩
  · split
    · exact ⟨Nat.zero_le _, Nat.zero_le _, fun t ht => by simp at ht⟩
    · split
      · exact ⟨unqP_size s, Nat.zero_le _, fun t ht => by simp at ht⟩
      · split
        · exact ⟨Nat.le_refl _, Nat.zero_le _, fun t ht => by simp at ht⟩
        · exact ⟨Nat.zero_le _, (listP_small s).1, (listP_small s).2⟩
/-- A block of zeros, and one with a value. -/
structure PV (x : Val) (a : Option Addr) (c B V : Nat) (w wr : World) : Prop where
  first : wr.heap[B]? = some (.cells #[.int .i64 0, .int .i64 0, .string ⟨#[]⟩, .slice none 0 0] 29 (0, 0))
  val : wr.heap[V]? = some (.cells #[.int .i64 x.kind, .int .i64 x.num, .string x.text, .slice a (x.list.length : Nat) c] 29 (0, 0))
  below : Below B w wr
theorem PV.grown {x : Val} {a : Option Addr} {c B V : Nat} {w wr w' : World} (h : PV x a c B V w wr) (hb : Below wr.heap.size wr w') : PV x a c B V w w' :=
  ⟨(hb.block B (Array.getElem?_eq_some_iff.1 h.first).1).trans h.first, (hb.block V (Array.getElem?_eq_some_iff.1 h.val).1).trans h.val, h.below.trans (hb.mono (Nat.le_of_lt (Array.getElem?_eq_some_iff.1 h.first).1))⟩
theorem PV.facts {x : Val} {a : Option Addr} {c B V : Nat} {w wr : World} (h : PV x a c B V w wr) :
    (wr.cell? ⟨V, 0, none⟩ = some (.int .i64 x.kind) ∧ wr.cell? ⟨V, 1, none⟩ = some (.int .i64 x.num) ∧ wr.cell? ⟨V, 2, none⟩ = some (.string x.text) ∧ wr.cell? ⟨V, 3, none⟩ = some (.slice a (x.list.length : Nat) c)) ∧
    (wr.cell? ⟨B, 0, none⟩ = some (.int .i64 0) ∧ wr.cell? ⟨B, 1, none⟩ = some (.int .i64 0) ∧ wr.cell? ⟨B, 2, none⟩ = some (.string ⟨#[]⟩) ∧ wr.cell? ⟨B, 3, none⟩ = some (.slice none 0 0)) ∧ (∀ i, wr.frozen? ⟨B, i, none⟩ = false) := by
  refine ⟨⟨?_, ?_, ?_, ?_⟩, ⟨?_, ?_, ?_, ?_⟩, fun i => Lib.frozen_of_heap h.first i⟩
  all_goals first | (rw [Lib.cell_of_heap h.val]; rfl) | (rw [Lib.cell_of_heap h.first]; rfl)
theorem TextsFrom.below {B : Nat} {a0 : Option Addr} {l : List ByteArray} {w w' : World} (h : TextsFrom B a0 l w) (hb : Below w.heap.size w w') : TextsFrom B a0 l w' := fun i hi => by
  obtain ⟨b, off, e, h1, h2, h3⟩ := h i hi
  exact ⟨b, off, e, h1, Nat.lt_of_lt_of_le h2 hb.size, (hb.cell (p := ⟨b, off + i, none⟩) h2).trans h3⟩
set_option maxHeartbeats 8000000 in
theorem parseVal_any (s : ByteArray) (w : World) (hs : s.size ≤ 1900000) (hT : Tabs w) :
    Calls Tryz.prog 10 #[.string s] w fun e w' => ReadEnd (parseR s).1 (.int .i64 (parseR s).2) w.heap.size w e w' := by
  have hb0 := (Below.refl w.heap.size w).alloc (Nat.le_refl _) (.cells #[.int .i64 0, .int .i64 0, .string ⟨#[]⟩, .slice none 0 0] 29)
  have hz0 : (w.alloc (.cells #[.int .i64 0, .int .i64 0, .string ⟨#[]⟩, .slice none 0 0] 29)).heap[w.heap.size]? = some (.cells #[.int .i64 0, .int .i64 0, .string ⟨#[]⟩, .slice none 0 0] 29 (0, 0)) := heap_alloc_new w _
  obtain ⟨ht, hl, hts⟩ := readP_small s
  obtain ⟨R, hR⟩ : ∃ R, parseR s = R := ⟨_, rfl⟩
  rw [hR]
  unfold parseR at hR
  have hT0 := hT.below hb0
  have hrd := read_any s (w.alloc (.cells #[.int .i64 0, .int .i64 0, .string ⟨#[]⟩, .slice none 0 0] 29)) hs hT0
  generalize (readP s).2 = ok at hR hrd
  generalize (readP s).1 = x at hR hrd ht hl hts
  have hchk := Lib.hid (fun (a : Option Addr) (c : Nat) (W : World) (hTW : Tabs W) (hA : TextsAre a x.list W) => check_any x a c W (by omega) (by omega) (fun t h => by have := hts t h; omega) hTW hA)
  clear ht hl hts
  replace hR := Lib.hid hR
  replace hrd := Lib.hid hrd
  go_enter Tryz.func10, Tryz.ntmps10
  go_wp2_with (go_at_call 23; refine hrd.out.mono ?_)
  rintro e w1 ⟨⟨a, c, rfl, ht1, hn1, hc1⟩, hb1⟩
  have hpv : PV x a c w.heap.size w1.heap.size w (w1.alloc (.cells #[.int .i64 x.kind, .int .i64 x.num, .string x.text, .slice a (x.list.length : Nat) c] 29)) := by
    have hb2 := (Below.refl _ w1).alloc (Nat.le_refl _) (.cells #[.int .i64 x.kind, .int .i64 x.num, .string x.text, .slice a (x.list.length : Nat) c] 29)
    have hsz := hb1.size
    simp only [World.size_alloc] at hsz
    refine ⟨?_, heap_alloc_new w1 _, ?_⟩
    · rw [hb2.block w.heap.size (by omega), hb1.block w.heap.size (by simp)]
      exact hz0
    · exact hb0.trans ((hb1.mono (by simp)).trans (hb2.mono (by omega)))
  have ht2 := ht1.below ((Below.refl _ w1).alloc (Nat.le_refl _) (.cells #[.int .i64 x.kind, .int .i64 x.num, .string x.text, .slice a (x.list.length : Nat) c] 29))
  obtain ⟨k, n, t, l⟩ := x
  unfold Val.agg at hchk ⊢
  replace hchk := Lib.hid hchk.out
  simp only at ht2 hn1 hc1 hchk hpv ⊢
  go_upto_region 2 with (fail)
  generalize w1.alloc (.cells #[.int .i64 k, .int .i64 n, .string t, .slice a (l.length : Nat) c] 29) = w2 at hpv ht2 ⊢
  clear hb0 hz0 hrd hT0 hb1 ht1
  obtain ⟨⟨c0, c1, c2, c3⟩, ⟨z0, z1, z2, z3⟩, zf⟩ := hpv.facts
  simp only at c0 c1 c2 c3
  cases ok with
  | false =>
    have hR2 := hR.out
    rw [if_neg (by simp)] at hR2
    subst hR2
    have hbl := hpv.below
    clear hpv ht2 hR hchk
    go_wp2
    refine bodyPost_ret (v := .tuple #[.agg #[.int .i64 0, .int .i64 0, .string ⟨#[]⟩, .slice none 0 0], .int .i64 1]) (by simp [results, Tryz.results10, go_sem, z0, z1, z2, z3]) rfl (readEnd_plain (x := ⟨0, 0, ⟨#[]⟩, []⟩) rfl hbl _ _ _ _)
  | true =>
    have hck := Lib.hid (hchk.out a c w2 (hT.below hpv.below) ht2.texts)
    clear z0 z1 z2 z3 zf hchk
    by_cases he : checkE ⟨k, n, t, l⟩ = 0
    · have hR2 := hR.out
      rw [if_pos ⟨rfl, he⟩] at hR2
      subst hR2
      rw [he] at hck
      clear hR he
      go_wp2_with (go_at_call 24; refine hck.out.mono ?_)
      rintro e w3 ⟨rfl, hb3⟩
      have hp3 := hpv.grown hb3
      have ht3 := ht2.below hb3
      clear c0 c1 c2 c3 hpv ht2 hck
      obtain ⟨⟨c0, c1, c2, c3⟩, ⟨z0, z1, z2, z3⟩, zf⟩ := hp3.facts
      simp only at c0 c1 c2 c3
      have hbl := hp3.below
      clear hp3
      go_wp2
      refine bodyPost_ret (v := .tuple #[.agg #[.int .i64 k, .int .i64 n, .string t, .slice a l.length c], .int .i64 0]) (by simp [results, Tryz.results10, go_sem, z0, z1, z2, z3]) rfl ⟨⟨a, c, rfl, ?_, hn1, hc1⟩, below_four hbl _ _ _ _⟩
      exact (((((ht3.set (B' := w.heap.size) (by simp) 0 _).set (B' := w.heap.size) (by simp) 1 _).set (B' := w.heap.size) (by simp) 2 _).set (B' := w.heap.size) (by simp) 3 _)).mono (by simp)
    · have hR2 := hR.out
      rw [if_neg (fun h => he h.2)] at hR2
      subst hR2
      have hne : (checkE ⟨k, n, t, l⟩ != 0) = true := by simpa using he
      generalize checkE ⟨k, n, t, l⟩ = ce at hck hne
      clear hR he
      go_wp2_with (go_at_call 24; refine hck.out.mono ?_)
      rintro e w3 ⟨rfl, hb3⟩
      have hp3 := hpv.grown hb3
      clear c0 c1 c2 c3 hpv ht2 hck
      obtain ⟨-, ⟨z0, z1, z2, z3⟩, zf⟩ := hp3.facts
      have hbl := hp3.below
      clear hp3
      go_wp2
      refine bodyPost_ret (v := .tuple #[.agg #[.int .i64 0, .int .i64 0, .string ⟨#[]⟩, .slice none 0 0], .int .i64 1]) (by simp [results, Tryz.results10, go_sem, z0, z1, z2, z3]) rfl (readEnd_plain (x := ⟨0, 0, ⟨#[]⟩, []⟩) rfl hbl _ _ _ _)
end Go.Proofs.YtmijfcdmnibnpaaGreatDoor
